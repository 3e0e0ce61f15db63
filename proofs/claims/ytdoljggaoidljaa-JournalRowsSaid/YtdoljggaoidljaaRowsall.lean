import Derived.Test.YtdoljggaoidljaaRows
import Derived.ProofKit
import Derived.OpenShut
import Derived.Carry
import Derived.Below
import Derived.SizedLaws
import Derived.Test.YtdoljggaoidljaaHeap
import Derived.SliceStrings
import Derived.Test.YtdoljggaoidljaaTop
import Derived.Test.YtdoljggaoidljaaApp
import Derived.Deep.LoopGhost
import Derived.Deep.CutRange
import Derived.Deep.RegionWith
/- How a law's statement follows from its walk: a call that answers true, and that leaves all that was there as it was, meets the law's specification, whatever its arguments are. -/
namespace Go.Proofs.Ytdoljggaoidljaa
open Go.ChangeShapes Go.WideShapes Go.ChangeAt Go.RowKit

theorem Try.laidOut : laidOutB Try.prog = true := by kernel_rfl
theorem Try.own : ownKnob Try.prog.godebug = none := by kernel_rfl

theorem args_stay {H : Type} {enc : TypeId × Value → H} {P : Program} (hl : laidOutB P = true) {W W' : World} (hb : Below W.heap.size W W') :
    ∀ {ts : List TypeId} {vs : List Value} {ds : List (DataW H)} {ps : List MemPlace}, (∀ t ∈ ts, P.readableRec t = true ∧ t < P.types.size) →
      DataW.TrodAll enc P W 0 (fun _ => true) true ts vs ds ps → (∀ x ∈ ps, x.block < W.heap.size) → DataW.TrodAll enc P W' 0 (fun b => decide (b < W.heap.size)) true ts vs ds ps
  | [], _, _, _, _, h, _ => by
    obtain ⟨rfl, rfl, rfl⟩ := trodAll_nil h
    exact trodAll_mk0
  | t :: ts, _, _, _, hr, h, hlt => by
    obtain ⟨v, vs, d, ds, p, ps, rfl, rfl, rfl, h0, r0⟩ := trodAll_cons h
    exact trodAll_cons_mk (Below.trod hl (hr t (by simp)).1 (hr t (by simp)).2 h0 hb (fun x hx => hlt x (by simp [hx])))
      (args_stay hl hb (fun u hu => hr u (by simp [hu])) r0 (fun x hx => hlt x (by simp [hx])))

/-- The law's specification is met. -/
theorem law_post {H : Type} {enc : TypeId × Value → H} {f : Func} {s : ChangeSpec} {W W' : World} {args : Array Value} {ds gs : List (DataW H)} {before : List MemPlace}
    (hW : DataW.Whole enc Try.prog f.params.toList s.vars false W args.toList ds gs before) (hv : s.vars = []) (hres : f.resultTypes = #[4])
    (hts : ∀ t ∈ f.params.toList, Try.prog.readableRec t = true ∧ t < Try.prog.types.size)
    (hfn : (s.fn H ds).results = [.lit (.bool true)]) (hargs : (s.fn H ds).args = ds) (hvars : (s.fn H ds).vars = []) (hb : Below W.heap.size W W') :
    ∃ v, Ending.returned (.bool true) = .returned v ∧ s.post enc Try.prog f false true false false W args v W' := by
  have hlt : ∀ p ∈ before, p.block < W.heap.size := fun p hp => hW.lt p hp
  have hW' := hW
  obtain ⟨p, q, hA, hV, rfl, hfz, hnd⟩ := hW
  rw [hv] at hV
  obtain ⟨rfl, rfl⟩ := trodVars_none hV
  refine ⟨_, rfl, ds, [], _, [], p, [], hW', ?_, ?_, ?_, hb.frame _, fun h => by cases h⟩
  · rw [List.append_nil, hfn, hres]
    exact trodAll_cons_mk (shut_bool Try.underlying4 _) trodAll_mk0
  · rw [List.append_nil, hargs]
    exact args_stay Try.laidOut hb hts hA (fun x hx => hlt x (by simp [hx]))
  · rw [List.append_nil, hv, hvars]
    rfl
end Go.Proofs.Ytdoljggaoidljaa
/- How arguments that are slices of texts are read: their cells, and what they say as data. -/
namespace Go.Proofs.Ytdoljggaoidljaa
open Go.ChangeShapes Go.WideShapes Go.ChangeAt Go.RowKit

theorem bytes_string : Try.prog.bytesOf 9 = 16 := by kernel_rfl
theorem Try.cellString : Try.prog.cellsOf 9 = 1 := by kernel_rfl

theorem rd_of {w : World} {a : Addr} {xs : List Value} (h : ∀ i u, xs[i]? = some u → w.cell? (a.add i) = some u) : Rd w (some a) xs := fun h0 => by
  have h00 := h 0 xs[0] (List.getElem?_eq_getElem h0)
  have e0 : a.add 0 = a := by simp [Addr.add]
  rw [e0] at h00
  have hs := World.cell?_spot h00
  obtain ⟨g, o, spot⟩ := a
  simp only at hs
  subst hs
  exact ⟨g, o, rfl, World.block_lt_of_cell? w ⟨g, o, none⟩ h00, fun j u hu => by rw [← add_plain]; exact h j u hu⟩

section
variable {H : Type} {enc : TypeId × Value → H} {w : World} {base : Nat}
set_option maxRecDepth 100000 in
theorem open_texts {v : Value} {d : DataW H} {ps : List MemPlace} (hv : Value.okWide Try.prog w .any base 22 v) (h : DataW.Trod enc Try.prog w 0 (fun _ => true) true 22 v d ps) :
    ∃ (A : Option Addr) (c : Nat) (l : List ByteArray), v = .slice A l.length c ∧ Rd w A (l.map Value.string) ∧ ((d = .nil ∧ l = []) ∨ ∃ rest, d = .slice (strs l) rest) ∧ l.length ≤ c := by
  obtain ⟨a0, len0, cap0, rfl⟩ := okWide_slice Try.underlying22 hv
  obtain ⟨fuel, hf⟩ := h
  rcases open_strings Try.underlying22 Try.underlying9 Try.cellString hf with ⟨hcs, hx⟩ | ⟨a, len, cap, zs, hcs, _, hl, hm, hz, hx, hcell, _⟩
  · simp only [Value.cells, List.cons.injEq, Value.slice.injEq, and_true] at hcs
    obtain ⟨rfl, rfl, rfl⟩ := hcs
    simp only [Prod.mk.injEq] at hx
    exact ⟨none, 0, [], rfl, fun h => by simp at h, .inl ⟨hx.1, rfl⟩, Nat.le_refl _⟩
  · simp only [Value.cells, List.cons.injEq, Value.slice.injEq, and_true] at hcs
    obtain ⟨rfl, rfl, rfl⟩ := hcs
    have hzc : zs.length = cap0 := by simpa using hz
    simp only [Prod.mk.injEq] at hx
    have hlen : (zs.take len0).length = len0 := by rw [List.length_take]; omega
    refine ⟨some a, cap0, zs.take len0, by rw [hlen], rd_of fun i u hu => ?_, .inr ⟨_, hx.1⟩, by rw [hlen]; omega⟩
    have hi : i < len0 := by
      have := (List.getElem?_eq_some_iff.1 hu).1
      rw [List.length_map, hlen] at this
      exact this
    rw [hcell i (by omega)]
    rw [List.getElem?_map, List.getElem?_take, if_pos hi, List.getElem?_eq_getElem (by omega)] at hu
    simp only [Option.map_some, Option.some.injEq] at hu
    rw [← hu, List.getD_eq_getElem?_getD, List.getElem?_eq_getElem (by omega)]
    rfl
end
end Go.Proofs.Ytdoljggaoidljaa
/- The walk of JournalRows. -/
namespace Go.Proofs.Ytdoljggaoidljaa
open Go.RowKit

theorem Try.infoS8 : (Try.prog.info? 9).map (fun i => (i.zero, i.size, i.bytes)) = some (some (.string .empty), 1, 16) := by kernel_rfl
namespace Rw
/-- those that are appended; their records -/
def fits (l : List ByteArray) : List ByteArray := l.filter fun x => decide (x.size ≤ 1000)
def rcs (l : List ByteArray) : List Jo.Rc := l.map fun x => ⟨2, bytesOf x⟩
theorem fits_yes {l : List ByteArray} {k : Nat} (h : k < l.length) (hx : l[k].size ≤ 1000) : fits (l.take (k + 1)) = fits (l.take k) ++ [l[k]] := by
  unfold fits
  rw [List.take_succ_eq_append_getElem h, List.filter_append]
  simp [hx]
theorem fits_no {l : List ByteArray} {k : Nat} (h : k < l.length) (hx : ¬ l[k].size ≤ 1000) : fits (l.take (k + 1)) = fits (l.take k) := by
  unfold fits
  rw [List.take_succ_eq_append_getElem h, List.filter_append]
  simp [hx]
theorem fits_len (l : List ByteArray) (k : Nat) : (fits (l.take k)).length ≤ k := by
  unfold fits
  exact Nat.le_trans (List.length_filter_le _ _) (by rw [List.length_take]; omega)
theorem rcs_snoc (l : List ByteArray) (x : ByteArray) : rcs (l ++ [x]) = rcs l ++ [⟨2, bytesOf x⟩] := by simp [rcs]
theorem safe_rcs : ∀ l : List ByteArray, Jo.lastSafe none (rcs l) = none
  | [] => rfl
  | _ :: l => safe_rcs l
theorem live_off {S : Nat → Prop} {w w' : World} {jb mb n : Nat} {all : List Jo.Rc} (h : Live w jb mb none n all) (f : Fr S w w') (h1 : ¬ S jb) (h2 : ¬ S mb) : Live w' jb mb none n all := by
  obtain ⟨j, c, L, a, b⟩ := h.ex
  exact ⟨j, c, L, ⟨a.mem.fr f h2 (fun k e => by cases e), a.jr.fr f h1, a.off⟩, b⟩
end Rw
set_option maxRecDepth 100000 in
set_option maxHeartbeats 4000000 in
theorem rows_walk (A : Option Addr) (c : Nat) (l : List ByteArray) (w : World) (h : Rd w A (l.map Value.string)) (hlen : l.length ≤ 140737488355328) (hcap : l.length ≤ c) :
    Calls Try.prog 3 #[.slice A l.length c] w fun e w' => e = .returned (.bool true) ∧ Below w.heap.size w w' := by
  go_enter Try.func3, Try.ntmps3
  go_wp2_with fail
  refine (lives_any w).mono ?_
  rintro e w1 ⟨rfl, F1⟩
  have G1 := Lib.hid F1
  clear F1
  go_wp2_with fail
  refine (new_any _).mono ?_
  rintro e w2 ⟨rfl, M0, F0⟩
  obtain ⟨b, hb⟩ : ∃ b, b = w1.heap.size := ⟨_, rfl⟩
  have hb0 : w.heap.size ≤ b := by have := G1.out.size; omega
  rw [← hb] at M0 ⊢
  have G2 := Lib.hid (fr_quiet G1.out F0)
  have hb1 := M0.blt
  have H2 := Lib.hid M0
  clear F0 hb M0 G1
  go_wp2_with fail
  refine (open_live H2.out holds_new (by decide)).mono ?_
  rintro e w3 ⟨j, k, A0, cp0, rfl, L3, q1, q2, q3, q4, F3⟩
  have hj0 : w.heap.size ≤ j := by omega
  have hjb : j ≠ b := by omega
  have G3 := Lib.hid (fr_quiet G2.out F3)
  have H3 := Lib.hid L3
  have hk0 : k = 0 := Nat.le_zero.1 q2
  subst hk0
  have e0 : (([] : List Jo.Rc).drop 0).length = 0 := rfl
  rw [e0]
  have KN := next_live H3.out
  clear F3 L3 G2 H2 q1 q2 q3 q4 hb1 e0
  go_wp2_with fail
  refine KN.mono ?_
  clear KN
  rintro e w' ⟨rfl, rfl⟩
  obtain ⟨n, hn, hmin⟩ : ∃ n : Nat, n = min l.length 200 ∧ min (l.length : Int) 200 = (n : Int) := ⟨min l.length 200, rfl, by omega⟩
  have hnl : n ≤ l.length := by omega
  have hn200 : n ≤ 200 := by omega
  have hnc : n ≤ c := by omega
  clear hn
  go_upto_region 8 with fail
  obtain ⟨B, hB, hjB, hbB, hB3⟩ : ∃ B, w.heap.size ≤ B ∧ j < B ∧ b < B ∧ B ≤ w3.heap.size := ⟨w3.heap.size, by have := G3.out.size; omega, H3.out.blt.1, H3.out.blt.2.1, Nat.le_refl _⟩
  obtain ⟨T, hT⟩ : ∃ T, T = l.take n := ⟨_, rfl⟩
  have hTn : T.length = n := by rw [hT, List.length_take]; omega
  have hR : Rd w A (T.map Value.string) := by
    have e : l.map Value.string = T.map Value.string ++ (l.drop n).map Value.string := by rw [hT, ← List.map_append, List.take_append_drop]
    rw [e] at h
    exact h.pre
  have KO : w3.ownsRow B 9 1 (.slice none 0 0) 0 [] := World.ownsRow_nil _ _ _ _
  obtain ⟨i2, hj, hy0, hy1, hy2⟩ := info_parts Try.infoS8
  clear h hT hlen hcap hnl hnc hmin
  subst hTn
  go_wp2_with fail
  go_loopw [7, 44] (fun v7 i wr => ∃ k : Nat, k ≤ T.length ∧ i = .int .i64 (k : Int) ∧ Live wr j b none (Rw.fits (T.take k)).length (Rw.rcs (Rw.fits (T.take k))) ∧ wr.ownsRow B 9 1 v7 (Rw.fits (T.take k)).length ((Rw.fits (T.take k)).map Value.string) ∧ B ≤ wr.heap.size ∧ Fr (fun k => w.heap.size ≤ k) w wr) (fun _ i _ => T.length - (intOf i).toNat)
  case atStart => exact ⟨0, Nat.zero_le _, rfl, H3.out, KO, hB3, G3.out⟩
  case round =>
    clear KO hB3
    obtain ⟨k, hk, rfl, hL, hO, hBw, hF⟩ := hrel
    clear G3 H3
    by_cases hlt : k < T.length
    · obtain ⟨g, o, rfl, hg, hc⟩ := hR (by simp; omega)
      have c1 : wr.cell? ⟨g, o + k, none⟩ = some (.string T[k]) := (hF.cell (p := ⟨g, o + k, none⟩) hg (by simp; omega)).trans (hc k (.string T[k]) (by rw [List.getElem?_map, List.getElem?_eq_getElem hlt]; rfl))
      have hbd := Rw.fits_len T k
      by_cases hx : 1000 < T[k].size
      · have HN := Lib.hid (Rw.fits_no hlt (by omega))
        have HL := Lib.hid hL
        have HO := Lib.hid hO
        have HF := Lib.hid hF
        generalize T[k] = x at c1 hx
        clear hc hL hO hF
        go_wp2_with fail
        go_roundw
        case rel => exact ⟨k + 1, by omega, by go_num, by rw [HN.out]; exact HL.out, by rw [HN.out]; exact HO.out, hBw, HF.out⟩
        case measure => simp [intOf]; omega
      · have hy := Rw.fits_yes hlt (by omega : T[k].size ≤ 1000)
        have HN := Lib.hid hy
        have K1 := append_live hL (by omega) 2 T[k] (.inr rfl) (by omega)
        have HO := Lib.hid hO
        have HF := Lib.hid hF
        generalize T[k] = x at *
        clear hc hL hO hF hy
        go_wp2_with fail
        refine K1.mono ?_
        clear K1
        rintro e w4 ⟨rfl, L4, F4⟩
        have O4 := own_fr HO.out F4 (fun k hk hS => by
          have := (World.ownsRow.lt HO.out k hk).1
          rcases hS with (e | e) | e
          · omega
          · cases e
          · omega)
        have G4 := Lib.hid (fr_jf HF.out F4 hb0 hj0 fun k hk => by cases hk)
        have hB4 := Nat.le_trans hBw F4.size
        have H4 := Lib.hid L4
        clear F4 L4 HO HF
        generalize hm : (Rw.fits (T.take k)).length = m at *
        go_wp2_with (at_builtin; refine wpList_append_rd _ rfl (.tmp 55) (.tmp 57) 22 rfl B 9 i2 (.string .empty) 16 Try.underlying22 hj hy0 hy1 hy2 rfl _ m ((Rw.fits (T.take k)).map Value.string) rfl (own_fr O4 ((Fr.refl (fun _ => False) w4).alloc (.cells #[.string x] 9)) (fun _ _ => id)) _ 1 1 [.string x] rfl rfl (Rd.one w4 (.string x) 9) (by intro u hu; simp at hu; subst hu; rfl) (by unfold maxLen; omega) (by omega) (by simp; omega) ?_)
        intro v7' w5 p5 hg5
        have fa : Fr (fun _ => False) w4 (w4.alloc (.cells #[.string x] 9)) := (Fr.refl _ _).alloc _
        have oa := own_fr O4 fa (fun _ _ => id)
        have fg : Fr (fun i => B ≤ i) w4 w5 := (fa.mono (S' := fun i => B ≤ i) fun _ _ h => h.elim).trans ((Fr.refl (fun i => B ≤ i) _).grown hg5 fun k hk => .inl (World.ownsRow.lt oa k hk).1) fun _ _ h => h
        have H5 := Lib.hid (Rw.live_off H4.out fg (by omega) (by omega))
        have G5 := Lib.hid (G4.out.trans fg fun _ _ h => Nat.le_trans hB h)
        have hB5 := Nat.le_trans hB4 fg.size
        have HO5 := Lib.hid p5
        clear fa oa fg H4 G4 hB4 O4 p5 hg5
        go_wp2_with fail
        go_roundw
        case rel =>
          refine ⟨k + 1, by omega, by go_num, ?_, ?_, hB5, G5.out⟩
          · rw [HN.out, List.length_append, hm, Rw.rcs_snoc]
            exact H5.out
          · rw [HN.out, List.length_append, hm, List.map_append]
            exact HO5.out
        case measure => simp [intOf]; omega
    · have hkn : k = T.length := by omega
      subst hkn
      rw [List.take_length] at hL hO
      have hsf := Rw.safe_rcs (Rw.fits T)
      have hfl : (Rw.fits T).length ≤ 200 := by
        have := Rw.fits_len T T.length
        rw [List.take_length] at this
        omega
      have hrl : (Rw.rcs (Rw.fits T)).length = (Rw.fits T).length := by unfold Rw.rcs; rw [List.length_map]
      generalize Rw.fits T = X at *
      obtain ⟨m, M, S⟩ := hL.mem
      have K1 := again_any M
      obtain ⟨A7, c7, rfl, _, _⟩ := own_form hO
      have r7 := own_rd hO
      obtain ⟨u, hu⟩ : ∃ u, u = wr.heap.size := ⟨_, rfl⟩
      rw [← hu] at K1
      have HS := Lib.hid S.again
      have HR := Lib.hid r7
      have HF := Lib.hid hF
      clear hL hO hF hu M S r7 hR
      go_wp2_with fail
      refine K1.mono ?_
      clear K1
      rintro e w4 ⟨rfl, M4, F4⟩
      have G4 := Lib.hid (fr_quiet HF.out F4)
      have R4 := Lib.hid (HR.out.fr F4 fun _ _ => id)
      have H4 := Lib.hid M4
      clear F4 M4 HF HR
      go_wp2_with fail
      refine (open_live H4.out HS.out (by omega)).mono ?_
      rintro e w5 ⟨jn, kk, A5, cp5, rfl, L5, _, q2, q3, q4, F5⟩
      have G5 := Lib.hid (fr_quiet G4.out F5)
      have R5 := Lib.hid (R4.out.fr F5 fun _ _ => id)
      have Q5 := Lib.hid q4
      have H5 := Lib.hid L5
      rw [List.length_drop, hrl]
      rw [hrl] at q2 q3
      have KN := next_live L5
      rw [hrl] at KN
      clear F5 L5 G4 R4 H4 HS q4
      obtain ⟨N, hN⟩ : ∃ N, N = X.length - kk := ⟨_, rfl⟩
      rw [← hN]
      have hN1 : N ≤ X.length := by omega
      obtain ⟨zz, hz, hzN⟩ : ∃ zz : Nat, min (X.length : Int) 16 = (zz : Int) ∧ zz ≤ N := ⟨min X.length 16, by omega, by omega⟩
      have e1 : ((X.length + 1 : Nat) : Int) = (X.length : Int) + 1 := by omega
      rw [e1] at KN
      have hfrom : (X.length : Int) - (N : Int) = (kk : Int) := by omega
      have HN := Lib.hid hN
      have HZ := Lib.hid hrl
      clear hN e1 hrl
      go_upto_region 20 with (refine KN.mono ?_; rintro e w' ⟨rfl, rfl⟩)
      clear KN
      go_wp2_with fail
      obtain ⟨w6, hw6⟩ : ∃ w6 : World, w6 = w5 := ⟨_, rfl⟩
      go_loopw [99] (fun i wr => ∃ q : Nat, q ≤ N ∧ i = .int .i64 (q : Int) ∧ Fr (fun _ => False) w5 wr) (fun i _ => N - (intOf i).toNat)
      case atStart => exact ⟨0, Nat.zero_le _, rfl, Fr.refl _ _⟩
      case round =>
        obtain ⟨q, hq, rfl, hW⟩ := hrel
        by_cases hqN : q < N
        · have hkq : kk + q < X.length := by have := HN.out; omega
          have hqd : q < ((Rw.rcs X).drop kk).length := by rw [List.length_drop, HZ.out]; omega
          have rA := Q5.out.fr hW fun _ _ => id
          have rB := R5.out.fr hW fun _ _ => id
          obtain ⟨g, o, rfl, hg, x0, x1, x2⟩ := rd_rec rA hqd
          have hel : ((Rw.rcs X).drop kk)[q] = ⟨2, bytesOf X[kk + q]⟩ := by
            rw [List.getElem_drop]
            unfold Rw.rcs
            rw [List.getElem_map]
          rw [hel] at x1 x2
          have x2' : wr.cell? ⟨g, o + q * 3 + 2, none⟩ = some (.string X[kk + q]) := by
            rw [x2]
            exact congrArg (fun y => some (Value.string y)) (mk_bytesOf _)
          have x1' : wr.cell? ⟨g, o + q * 3 + 1, none⟩ = some (.int .i64 2) := x1
          have x0' : wr.cell? ⟨g, o + q * 3, none⟩ = some (.int .i64 ((kk : Int) + (q : Int) + 1)) := by
            rw [x0]
            exact congrArg (fun y => some (Value.int .i64 y)) (by omega)
          obtain ⟨g2, o2, rfl, hg2, hc2⟩ := rB (by simp; omega)
          have y0 : wr.cell? ⟨g2, o2 + (kk + q), none⟩ = some (.string X[kk + q]) := hc2 _ _ (by rw [List.getElem?_map, List.getElem?_eq_getElem hkq]; rfl)
          generalize X[kk + q] = x at *
          clear x0 x1 x2 hel rA rB hc2 hqd
          have HW := Lib.hid hW
          clear hW
          go_upto_region 24 with fail
          have fW := (Fr.refl (fun _ => False) wr).alloc (.cells #[Value.int .i64 ((kk : Int) + (q : Int) + 1), Value.int .i64 2, Value.string x] 34)
          have I7 := Is.new wr 34 #[Value.int .i64 ((kk : Int) + (q : Int) + 1), Value.int .i64 2, Value.string x]
          obtain ⟨v, hv⟩ : ∃ v, v = wr.heap.size := ⟨_, rfl⟩
          rw [← hv] at I7 ⊢
          have z0 := cell_fro (fW.cell (p := ⟨g2, o2 + (kk + q), none⟩) hg2 id |>.trans y0)
          generalize wr.alloc _ = W7 at *
          have z1 := cell_fro (show W7.cell? ⟨v, 0, none⟩ = some (.int .i64 ((kk : Int) + (q : Int) + 1)) from I7.cell 0)
          have z2 := cell_fro (show W7.cell? ⟨v, 1, none⟩ = some (.int .i64 2) from I7.cell 1)
          have z3 := cell_fro (show W7.cell? ⟨v, 2, none⟩ = some (.string x) from I7.cell 2)
          have HW7 := Lib.hid (HW.out.trans fW fun _ _ h => h)
          clear fW I7 y0 x0' x1' x2' hv HW
          refine region_fro (by kernel_rfl) (by kernel_rfl) ?_
          repeat (go_big_quiet_step (fail))
          refine wpQuiet_nil ?_
          rintro _ ⟨⟨w8, f8⟩, rfl⟩
          have HW8 := Lib.hid (HW7.out.trans f8 fun _ _ h => h)
          clear f8 HW7
          go_wp2_with fail
          go_roundw
          case rel => exact ⟨q + 1, by omega, by go_num, HW8.out⟩
          case measure => simp [intOf]; omega
        · have hqe : q = N := by omega
          subst hqe
          have K2 := safe_live (H5.out.fr hW)
          rw [hsf] at K2
          have G6 := Lib.hid (fr_quiet G5.out hW)
          clear hW
          go_wp2_with fail
          refine K2.mono ?_
          clear K2
          rintro e w7 ⟨rfl, F7⟩
          have G7 := Lib.hid (fr_quiet G6.out F7)
          clear F7 G6
          go_wp2_with fail
          go_ret
          exact ⟨rfl, G7.out.toBelow⟩
end Go.Proofs.Ytdoljggaoidljaa
/- JournalRows (P8.2): records are found behind a loss of power, the last sixteen at least, with numbers that rise by one, texts and kinds as they were appended. For every list of texts; no condition. -/
namespace Go.Proofs.Ytdoljggaoidljaa.journalRows
open Go.ChangeShapes Go.WideShapes Go.ChangeAt Go.RowKit
open Go.ChangeMaps (open_string shut_string)

set_option maxRecDepth 100000 in
theorem lifted (os : Os) (started : os.Started) (H : Type) (enc : TypeId × Value → H) :
    ReturnsInHanded {} Try.checked os 3 .any (Rows.journalRowsSpec.pre6 enc Try.prog Try.f3 Rows.journalRowsRow.domain false) (Rows.journalRowsSpec.post enc Try.prog Try.f3 false true false false) := by
  refine returnsInHanded_of_change_sized (C := Try.checked) Try.own started (by kernel_rfl) Try.func3
    (ChangeSpec.witness6 (enc := enc) (C := Try.checked) false ⟨#[], #[.slice none 0 0], []⟩ 8 (by kernel_rfl) (by kernel_rfl) (by kernel_rfl) (by kernel_rfl)) ?_
  intro W base args ds gs before hval0 hW hcnd0 hsz0 _
  have hval : ∀ (j : Nat) t v, Try.f3.params[j]? = some t → args[j]? = some v → Value.okWide Try.prog W .any base t v := hval0
  have hW' := hW
  obtain ⟨p, q, hA0, hV, rfl, hfz, hnd⟩ := hW
  have hA : DataW.TrodAll enc Try.prog W 0 (fun _ => true) true Try.f3.params.toList args.toList ds p := hA0
  have hsz : (DataW.weightsEach Try.prog (Try.f3.params.toList ++ Rows.journalRowsSpec.plain.varTypes Try.prog) (ds ++ gs)).all (· ≤ reachBytes) = true := hsz0
  rw [Try.params3] at hA hval hsz
  obtain ⟨v0, d0, rfl, rfl, h0⟩ := trodAll_one hA
  obtain ⟨rfl, rfl⟩ := trodVars_none hV
  obtain ⟨A0, c0, l0, rfl, hl0, hd0, kc0⟩ := open_texts (hval 0 22 v0 rfl rfl) h0
  have n0 : l0.length * 16 ≤ 140737488351232 := by
    rcases hd0 with ⟨_, rfl⟩ | ⟨rest, rfl⟩
    · simp
    · have := sized_slice hsz (j := 0) (t := 22) (e := 9) rfl rfl Try.underlying22
      have e9 : (strs (H := H) l0).length = l0.length := by simp [strs]
      rw [bytes_string, e9] at this
      unfold reachBytes at this
      omega
  refine (rows_walk A0 c0 l0 W hl0 (by omega) kc0).mono fun e W' ⟨he, hb⟩ => ?_
  subst he
  exact law_post hW' rfl (by kernel_rfl) (by rw [Try.params3]; exact of_decide_eq_true (by kernel_rfl)) rfl rfl rfl hb

theorem proved : Rows.JournalRowsSaid :=
  OpenClaim.holds_of_wide 3 Try.f3 rfl rfl rfl rfl rfl rfl rfl ⟨rfl, rfl, rfl, rfl, rfl⟩ rfl rfl rfl rfl rfl (by kernel_rfl) Try.func3 (by kernel_rfl)
    (of_decide_eq_true (by kernel_rfl)) (by unfold Func.isWrapper; first | (rw [if_pos (by decide +kernel)]; kernel_rfl) | (rw [if_neg (by decide +kernel)]; exact ⟨rfl, rfl⟩))
    (fun os started H enc _ => lifted os started H enc)
end Go.Proofs.Ytdoljggaoidljaa.journalRows

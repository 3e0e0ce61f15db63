import Derived.Test.YtdoljggaoidljaaGreatRows
import Derived.ProofKit
import Derived.OpenShut
import Derived.Carry
import Derived.Below
import Derived.SizedLaws
import Derived.Test.YtdoljggaoidljaaGreatHeap
import Derived.SliceStrings
import Derived.Test.YtdoljggaoidljaaGreatScr
import Derived.Test.YtdoljggaoidljaaGreatTop
import Derived.Laws.BitsAllLaws
/- How a law's statement follows from its walk: a call that answers true, and that leaves all that was there as it was, meets the law's specification, whatever its arguments are. -/
namespace Go.Proofs.YtdoljggaoidljaaGreat
open Go.ChangeShapes Go.WideShapes Go.ChangeAt Go.RowKit

theorem Tryz.laidOut : laidOutB Tryz.prog = true := by kernel_rfl
theorem Tryz.own : ownKnob Tryz.prog.godebug = none := by kernel_rfl

theorem args_stay {H : Type} {enc : TypeId × Value → H} {P : Program} (hl : laidOutB P = true) {W W' : World} (hb : Below W.heap.size W W') :
    ∀ {ts : List TypeId} {vs : List Value} {ds : List (DataW H)} {ps : List MemPlace}, (∀ t ∈ ts, P.readableRec t = true ∧ t < P.types.size) →
      DataW.TrodAll enc P W 0 (fun _ => true) true ts vs ds ps → (∀ x ∈ ps, x.block < W.heap.size) → DataW.TrodAll enc P W' 0 (fun b => decide (b < W.heap.size)) true ts vs ds ps
  | [], _, _, _, _, h, _ => by
    obtain ⟨rfl, rfl, rfl⟩ := trodAll_nil h
    exact trodAll_mk0
  | t :: ts, _, _, _, hr, h, hlt => by
    obtain ⟨v, vs, d, ds, p, ps, rfl, rfl, rfl, h0, r0⟩ := trodAll_cons h
    exact trodAll_cons_mk (Below.trod hl (hr t (by simp)).1 (hr t (by simp)).2 h0 hb (fun x hx => hlt x (by simp [hx])))
      (args_stay hl hb (fun u hu => hr u (by simp [hu])) r0 (fun x hx => hlt x (by simp [hx])))

/-- The law's specification is met. -/
theorem law_post {H : Type} {enc : TypeId × Value → H} {f : Func} {s : ChangeSpec} {W W' : World} {args : Array Value} {ds gs : List (DataW H)} {before : List MemPlace}
    (hW : DataW.Whole enc Tryz.prog f.params.toList s.vars false W args.toList ds gs before) (hv : s.vars = []) (hres : f.resultTypes = #[4])
    (hts : ∀ t ∈ f.params.toList, Tryz.prog.readableRec t = true ∧ t < Tryz.prog.types.size)
    (hfn : (s.fn H ds).results = [.lit (.bool true)]) (hargs : (s.fn H ds).args = ds) (hvars : (s.fn H ds).vars = []) (hb : Below W.heap.size W W') :
    ∃ v, Ending.returned (.bool true) = .returned v ∧ s.post enc Tryz.prog f false true false false W args v W' := by
  have hlt : ∀ p ∈ before, p.block < W.heap.size := fun p hp => hW.lt p hp
  have hW' := hW
  obtain ⟨p, q, hA, hV, rfl, hfz, hnd⟩ := hW
  rw [hv] at hV
  obtain ⟨rfl, rfl⟩ := trodVars_none hV
  refine ⟨_, rfl, ds, [], _, [], p, [], hW', ?_, ?_, ?_, hb.frame _, fun h => by cases h⟩
  · rw [List.append_nil, hfn, hres]
    exact trodAll_cons_mk (shut_bool Tryz.underlying4 _) trodAll_mk0
  · rw [List.append_nil, hargs]
    exact args_stay Tryz.laidOut hb hts hA (fun x hx => hlt x (by simp [hx]))
  · rw [List.append_nil, hv, hvars]
    rfl
end Go.Proofs.YtdoljggaoidljaaGreat
/- How arguments that are slices of texts are read: their cells, and what they say as data. -/
namespace Go.Proofs.YtdoljggaoidljaaGreat
open Go.ChangeShapes Go.WideShapes Go.ChangeAt Go.RowKit

theorem bytes_string : Tryz.prog.bytesOf 9 = 16 := by kernel_rfl
theorem Tryz.cellString : Tryz.prog.cellsOf 9 = 1 := by kernel_rfl

theorem rd_of {w : World} {a : Addr} {xs : List Value} (h : ∀ i u, xs[i]? = some u → w.cell? (a.add i) = some u) : Rd w (some a) xs := fun h0 => by
  have h00 := h 0 xs[0] (List.getElem?_eq_getElem h0)
  have e0 : a.add 0 = a := by simp [Addr.add]
  rw [e0] at h00
  have hs := World.cell?_spot h00
  obtain ⟨g, o, spot⟩ := a
  simp only at hs
  subst hs
  exact ⟨g, o, rfl, World.block_lt_of_cell? w ⟨g, o, none⟩ h00, fun j u hu => by rw [← add_plain]; exact h j u hu⟩

section
variable {H : Type} {enc : TypeId × Value → H} {w : World} {base : Nat}
set_option maxRecDepth 100000 in
theorem open_texts {v : Value} {d : DataW H} {ps : List MemPlace} (hv : Value.okWide Tryz.prog w .any base 31 v) (h : DataW.Trod enc Tryz.prog w 0 (fun _ => true) true 31 v d ps) :
    ∃ (A : Option Addr) (c : Nat) (l : List ByteArray), v = .slice A l.length c ∧ Rd w A (l.map Value.string) ∧ ((d = .nil ∧ l = []) ∨ ∃ rest, d = .slice (strs l) rest) ∧ l.length ≤ c := by
  obtain ⟨a0, len0, cap0, rfl⟩ := okWide_slice Tryz.underlying31 hv
  obtain ⟨fuel, hf⟩ := h
  rcases open_strings Tryz.underlying31 Tryz.underlying9 Tryz.cellString hf with ⟨hcs, hx⟩ | ⟨a, len, cap, zs, hcs, _, hl, hm, hz, hx, hcell, _⟩
  · simp only [Value.cells, List.cons.injEq, Value.slice.injEq, and_true] at hcs
    obtain ⟨rfl, rfl, rfl⟩ := hcs
    simp only [Prod.mk.injEq] at hx
    exact ⟨none, 0, [], rfl, fun h => by simp at h, .inl ⟨hx.1, rfl⟩, Nat.le_refl _⟩
  · simp only [Value.cells, List.cons.injEq, Value.slice.injEq, and_true] at hcs
    obtain ⟨rfl, rfl, rfl⟩ := hcs
    have hzc : zs.length = cap0 := by simpa using hz
    simp only [Prod.mk.injEq] at hx
    have hlen : (zs.take len0).length = len0 := by rw [List.length_take]; omega
    refine ⟨some a, cap0, zs.take len0, by rw [hlen], rd_of fun i u hu => ?_, .inr ⟨_, hx.1⟩, by rw [hlen]; omega⟩
    have hi : i < len0 := by
      have := (List.getElem?_eq_some_iff.1 hu).1
      rw [List.length_map, hlen] at this
      exact this
    rw [hcell i (by omega)]
    rw [List.getElem?_map, List.getElem?_take, if_pos hi, List.getElem?_eq_getElem (by omega)] at hu
    simp only [Option.map_some, Option.some.injEq] at hu
    rw [← hu, List.getD_eq_getElem?_getD, List.getElem?_eq_getElem (by omega)]
    rfl
end
end Go.Proofs.YtdoljggaoidljaaGreat
/- The walk of JournalQuiet: without cuts a journal finds its last records again. -/
namespace Go.Proofs.YtdoljggaoidljaaGreat
open Go.RowKit

theorem Tryz.infoOp : (Tryz.prog.info? 27).map (fun i => (i.zero, i.size, i.bytes)) = some (some (.agg #[.int .i64 0, .int .i64 0, .string .empty, .slice none 0 0]), 4, 56) := by kernel_rfl
namespace Qt
theorem umod (a : Int) (m : Nat) (h0 : 0 < m) (h : m ≤ 4611686018427387904) : ∃ n : Nat, wrap64 ((IntKind.u64.wrap a).tmod (m : Int)) = n ∧ n < m := by
  have hw : 0 ≤ IntKind.u64.wrap a := by rw [IntKind.wrap_u64]; omega
  rw [Int.tmod_eq_emod_of_nonneg hw]
  have h1 := Int.emod_nonneg (IntKind.u64.wrap a) (b := (m : Int)) (by omega)
  have h2 := Int.emod_lt_of_pos (IntKind.u64.wrap a) (b := (m : Int)) (by omega)
  generalize IntKind.u64.wrap a % (m : Int) = x at *
  rw [IntWalk.wrap64_in _ ⟨by omega, by omega⟩]
  exact ⟨x.toNat, by omega, by omega⟩
end Qt
/-- operations without cuts -/
def Bare (l : List Oj) : Prop := ∀ o ∈ l, o.cuts = [] ∧ o.C = none ∧ o.cc = 0
theorem Bare.snoc {l : List Oj} (h : Bare l) (k r : Int) (x : ByteArray) : Bare (l ++ [⟨k, r, x, none, 0, []⟩]) := fun o ho => by
  rcases List.mem_append.1 ho with h1 | h1
  · exact h o h1
  · simp only [List.mem_cons, List.not_mem_nil, or_false] at h1
    subst h1
    exact ⟨rfl, rfl, rfl⟩
theorem Bare.ok {l : List Oj} (h : Bare l) (w : World) (base : Nat) : ∀ o ∈ l, o.ok w base := fun o ho => by
  obtain ⟨h1, h2, _⟩ := h o ho
  refine ⟨fun h0 => ?_, fun h0 => ?_, by rw [h1]; simp, by rw [h1]; simp⟩
  · rw [h1] at h0; simp [cutCells] at h0
  · rw [h1] at h0; simp at h0
theorem opCells_append : ∀ l k : List Oj, opCells (l ++ k) = opCells l ++ opCells k
  | [], _ => rfl
  | o :: l, k => by simp only [List.cons_append, opCells, opCells_append l k]
theorem op_lit (W : World) (k r : Int) (x : ByteArray) : Rd (W.alloc (.cells #[.int .i64 k, .int .i64 r, .string x, .slice none 0 0] 27)) (some ⟨W.heap.size, 0, none⟩) [.int .i64 k, .int .i64 r, .string x, .slice none 0 0] := fun _ => ⟨W.heap.size, 0, rfl, by simp, fun j u hu => by
  have hi := (Is.new W 27 #[.int .i64 k, .int .i64 r, .string x, .slice none 0 0]).cell (0 + j)
  rw [Nat.zero_add] at hi ⊢
  rw [hi, ← Array.getElem?_toList]
  exact hu⟩
theorem ops_snoc {w1 : World} {base : Nat} {v : Value} {l : List Oj} {k r : Int} {x : ByteArray} (h : w1.ownsRow base 27 4 v (l.length + 1) (opCells l ++ [.int .i64 k, .int .i64 r, .string x, .slice none 0 0])) : w1.ownsRow base 27 4 v (l ++ [(⟨k, r, x, none, 0, []⟩ : Oj)]).length (opCells (l ++ [(⟨k, r, x, none, 0, []⟩ : Oj)])) := by
  rw [opCells_append, List.length_append]
  exact h
theorem op_one (W : World) (base : Nat) (k r : Int) (x : ByteArray) (hb : base ≤ W.heap.size) : (W.alloc (.cells #[.int .i64 k, .int .i64 r, .string x, .slice none 0 0] 27)).ownsRow base 27 4 (.slice (some ⟨W.heap.size, 0, none⟩) 1 1) [(⟨k, r, x, none, 0, []⟩ : Oj)].length (opCells [⟨k, r, x, none, 0, []⟩]) :=
  ⟨rfl, .inr ⟨W.heap.size, 1, #[.int .i64 k, .int .i64 r, .string x, .slice none 0 0], rfl, hb, by simpa using heap_alloc_new W (.cells #[.int .i64 k, .int .i64 r, .string x, .slice none 0 0] 27), by simp, by unfold maxLen; omega, rfl, rfl⟩⟩

set_option maxRecDepth 100000 in
set_option maxHeartbeats 8000000 in
theorem quiet_walk (w : World) (s : ByteArray) (A : Option Addr) (c : Nat) (l : List ByteArray) (times : Int) (hl : Rd w A (l.map Value.string)) (hlen : l.length ≤ 140737488355328) :
    Calls Tryz.prog 5 #[.string s, .slice A l.length c, .int .i64 times] w fun e w' => e = .returned (.bool true) ∧ Below w.heap.size w w' := by
  have KL := lives_any w
  obtain ⟨nn, hnn, hn60⟩ := Qt.umod times 60 (by decide) (by decide)
  obtain ⟨i0, hi0, hz0, hz1, hz2⟩ := info_parts Tryz.infoOp
  go_enter Tryz.func5, Tryz.ntmps5
  go_wp2_with fail
  refine KL.mono ?_
  rintro e w1 ⟨rfl, f1⟩
  have f1' := own_only f1
  have HO1 := Lib.hid (op_one w1 w.heap.size 1 1 s f1.size)
  have HF1 := Lib.hid (f1'.alloc (.cells #[.int .i64 1, .int .i64 1, .string s, .slice none 0 0] 27))
  clear KL f1 f1'
  have hnn' : wrap64 ((IntKind.u64.wrap times).tmod 60) = (nn : Int) := hnn
  clear hnn
  go_wp2_with fail
  generalize w1.alloc (.cells #[.int .i64 1, .int .i64 1, .string s, .slice none 0 0] 27) = w2 at *
  simp only [hnn']
  clear hnn'
  go_loopw [8, 9] (fun v8 iv wr => ∃ (i : Nat) (ops : List Oj) (V : Option Addr) (cv : Nat), i ≤ nn ∧ iv = .int .i64 (i : Int) ∧ v8 = .slice V ops.length cv ∧ wr.ownsRow w.heap.size 27 4 (.slice V ops.length cv) ops.length (opCells ops) ∧ Bare ops ∧ ops.length ≤ 1 + 10 * i ∧ Fr (fun _ => False) w wr) (fun _ iv _ => nn - (intOf iv).toNat)
  case atStart => exact ⟨0, [⟨1, 1, s, none, 0, []⟩], _, 1, Nat.zero_le _, rfl, rfl, HO1.out, fun o ho => by simp only [List.mem_cons, List.not_mem_nil, or_false] at ho; subst ho; exact ⟨rfl, rfl, rfl⟩, Nat.le_refl _, HF1.out⟩
  case round =>
    clear HO1 HF1
    obtain ⟨i, ops0, V0, cv0, hi, rfl, rfl, own0, bare0, len0, fr0⟩ := hrel
    have HO0 := Lib.hid own0
    have HB0 := Lib.hid bare0
    have HF0 := Lib.hid fr0
    obtain ⟨wo, hwo⟩ : ∃ wo, wo = wr := ⟨_, rfl⟩
    subst hwo
    clear own0 bare0 fr0
    by_cases hlt : i < nn
    · have d0 : decide (i < nn) = true := decide_eq_true hlt
      have d00 : decide ((i : Int) < (nn : Int)) = true := decide_eq_true (by omega)
      go_wp2_with fail
      go_loopw [8, 28] (fun v8 kv wr => ∃ (k : Nat) (ops : List Oj) (V : Option Addr) (cv : Nat), k ≤ l.length ∧ kv = .int .i64 (k : Int) ∧ v8 = .slice V ops.length cv ∧ wr.ownsRow w.heap.size 27 4 (.slice V ops.length cv) ops.length (opCells ops) ∧ Bare ops ∧ ops.length ≤ 1 + 10 * i + min k 8 ∧ Fr (fun _ => False) w wr) (fun _ kv _ => l.length - (intOf kv).toNat)
      case atStart => exact ⟨0, ops0, V0, cv0, Nat.zero_le _, rfl, rfl, HO0.out, HB0.out, by omega, HF0.out⟩
      case round =>
        clear HO0 HB0 HF0
        obtain ⟨k, ops1, V1, cv1, hk, rfl, rfl, own1, bare1, len1, fr1⟩ := hrel
        have HO1 := Lib.hid own1
        have HB1 := Lib.hid bare1
        have HF1 := Lib.hid fr1
        by_cases hkl : k < l.length
        · obtain ⟨g, o, rfl, hg, hc⟩ := hl (by rw [List.length_map]; omega)
          have c1 : wr.cell? ⟨g, o + k, none⟩ = some (.string l[k]) := (fr1.cell (p := ⟨g, o + k, none⟩) hg id).trans (hc k (.string l[k]) (by rw [List.getElem?_map, List.getElem?_eq_getElem hkl]; rfl))
          generalize l[k] = x at c1
          clear own1 bare1 fr1 hc
          by_cases h8 : k < 8
          · have d8 : decide (k < 8) = true := decide_eq_true h8
            have d88 : decide ((k : Int) < 8) = true := decide_eq_true (by omega)
            have HOA3 : Hid ((wr.alloc (.cells #[.int .i64 1, .int .i64 2, .string x, .slice none 0 0] 27)).ownsRow w.heap.size 27 4 (.slice V1 ops1.length cv1) (ops1.length) (opCells ops1)) := Lib.hid (wide_fr HO1.out ((Fr.refl (fun _ => False) wr).alloc (.cells #[.int .i64 1, .int .i64 2, .string x, .slice none 0 0] 27)) fun _ _ => id)
            have HFA3 := Lib.hid (HF1.out.alloc (.cells #[.int .i64 1, .int .i64 2, .string x, .slice none 0 0] 27))
            have HRD3 := Lib.hid (op_lit wr 1 2 x)
            have hbs3 : w.heap.size ≤ (wr.alloc (.cells #[.int .i64 1, .int .i64 2, .string x, .slice none 0 0] 27)).heap.size := HFA3.out.size
            go_wp2_with (at_builtin; refine wpList_append_wide _ rfl (.tmp 35) (.tmp 38) 22 rfl w.heap.size 27 i0 _ 4 56 Tryz.underlying22 hi0 hz0 hz1 hz2 rfl (by decide) (.slice V1 ops1.length cv1) ((ops1.length)) (opCells ops1) rfl HOA3.out (some ⟨wr.heap.size, 0, none⟩) 1 1 [.int .i64 1, .int .i64 2, .string x, .slice none 0 0] rfl rfl HRD3.out (by intro u hu; simp at hu; rcases hu with rfl | rfl | rfl | rfl <;> rfl) (by unfold maxLen; omega) (by omega) hbs3 ?_; intro v3 w3 hown hg _; obtain ⟨A3, c3, rfl, _, _, _, _⟩ := wide_form hown; have HF3 := Lib.hid (HFA3.out.grown hg fun k hk => .inr (World.ownsRow.lt HOA3.out k hk).1); have HO3 := Lib.hid (ops_snoc hown); clear hown hg)
            go_roundw
            case rel => exact ⟨k + 1, ops1 ++ [⟨1, 2, x, none, 0, []⟩], A3, c3, by omega, by go_num, by rw [List.length_append]; rfl, by have := HO3.out; rw [List.length_append] at this ⊢; exact this, HB1.out.snoc 1 2 x, by rw [List.length_append]; simp; omega, HF3.out⟩
            case measure => simp [intOf]; omega
          · have d8 : decide (k < 8) = false := decide_eq_false h8
            have d88 : decide ((k : Int) < 8) = false := decide_eq_false (by omega)
            go_wp2_with fail
            go_roundw
            case rel => exact ⟨k + 1, ops1, V1, cv1, by omega, by go_num, rfl, HO1.out, HB1.out, by omega, HF1.out⟩
            case measure => simp [intOf]; omega
        · have dk : decide (k < l.length) = false := decide_eq_false hkl
          have hl8 : ops1.length ≤ 1 + 10 * i + 8 := by omega
          clear own1 bare1 fr1
          by_cases q7 : i % 7 = 3
          · by_cases q11 : i % 11 = 5
            · have HOA4 : Hid ((wr.alloc (.cells #[.int .i64 4, .int .i64 0, .string ⟨#[]⟩, .slice none 0 0] 27)).ownsRow w.heap.size 27 4 (.slice V1 ops1.length cv1) (ops1.length) (opCells ops1)) := Lib.hid (wide_fr HO1.out ((Fr.refl (fun _ => False) wr).alloc (.cells #[.int .i64 4, .int .i64 0, .string ⟨#[]⟩, .slice none 0 0] 27)) fun _ _ => id)
              have HFA4 := Lib.hid (HF1.out.alloc (.cells #[.int .i64 4, .int .i64 0, .string ⟨#[]⟩, .slice none 0 0] 27))
              have HRD4 := Lib.hid (op_lit wr 4 0 ⟨#[]⟩)
              have hbs4 : w.heap.size ≤ (wr.alloc (.cells #[.int .i64 4, .int .i64 0, .string ⟨#[]⟩, .slice none 0 0] 27)).heap.size := HFA4.out.size
              go_upto_region 17 with (at_builtin; refine wpList_append_wide _ rfl (.tmp 44) (.tmp 46) 22 rfl w.heap.size 27 i0 _ 4 56 Tryz.underlying22 hi0 hz0 hz1 hz2 rfl (by decide) (.slice V1 ops1.length cv1) ((ops1.length)) (opCells ops1) rfl HOA4.out (some ⟨wr.heap.size, 0, none⟩) 1 1 [.int .i64 4, .int .i64 0, .string ⟨#[]⟩, .slice none 0 0] rfl rfl HRD4.out (by intro u hu; simp at hu; rcases hu with rfl | rfl | rfl | rfl <;> rfl) (by unfold maxLen; omega) (by omega) hbs4 ?_; intro v4 w4 hown hg _; obtain ⟨A4, c4, rfl, _, _, _, _⟩ := wide_form hown; have HF4 := Lib.hid (HFA4.out.grown hg fun k hk => .inr (World.ownsRow.lt HOA4.out k hk).1); have HO4 := Lib.hid (ops_snoc hown); clear hown hg)
              obtain ⟨ops4, hops4⟩ : ∃ ops4, ops4 = ops1 ++ [(⟨4, 0, ⟨#[]⟩, none, 0, []⟩ : Oj)] := ⟨_, rfl⟩
              have hlen4 : ops4.length = ops1.length + 1 := by rw [hops4, List.length_append]; rfl
              have HB4 : Hid (Bare ops4) := Lib.hid (by rw [hops4]; exact HB1.out.snoc 4 0 _)
              rw [← hops4] at HO4
              clear hops4
              have HP4 : Hid (w4.ownsRow w.heap.size 27 4 (.slice A4 ops4.length c4) ops4.length (opCells ops4)) := Lib.hid (by have h9 := HO4.out; rw [hlen4] at h9 ⊢; exact h9)
              have HQ4 : Hid (w4.ownsRow w.heap.size 27 4 (.slice A4 (ops1.length + 1) c4) (ops1.length + 1) (opCells ops4)) := Lib.hid (by have h9 := HO4.out; rw [hlen4] at h9; exact h9)
              have HOA5 : Hid ((w4.alloc (.cells #[.int .i64 3, .int .i64 0, .string ⟨#[]⟩, .slice none 0 0] 27)).ownsRow w.heap.size 27 4 (.slice A4 (ops1.length + 1) c4) (ops1.length + 1) (opCells ops4)) := Lib.hid (wide_fr HQ4.out ((Fr.refl (fun _ => False) w4).alloc (.cells #[.int .i64 3, .int .i64 0, .string ⟨#[]⟩, .slice none 0 0] 27)) fun _ _ => id)
              have HFA5 := Lib.hid (HF4.out.alloc (.cells #[.int .i64 3, .int .i64 0, .string ⟨#[]⟩, .slice none 0 0] 27))
              have HRD5 := Lib.hid (op_lit w4 3 0 ⟨#[]⟩)
              have hbs5 : w.heap.size ≤ (w4.alloc (.cells #[.int .i64 3, .int .i64 0, .string ⟨#[]⟩, .slice none 0 0] 27)).heap.size := HFA5.out.size
              go_wp2_with (at_builtin; refine wpList_append_wide _ rfl (.tmp 51) (.tmp 53) 22 rfl w.heap.size 27 i0 _ 4 56 Tryz.underlying22 hi0 hz0 hz1 hz2 rfl (by decide) (.slice A4 (ops1.length + 1) c4) ((ops1.length + 1)) (opCells ops4) rfl HOA5.out (some ⟨w4.heap.size, 0, none⟩) 1 1 [.int .i64 3, .int .i64 0, .string ⟨#[]⟩, .slice none 0 0] rfl rfl HRD5.out (by intro u hu; simp at hu; rcases hu with rfl | rfl | rfl | rfl <;> rfl) (by unfold maxLen; omega) (by omega) hbs5 ?_; intro v5 w5 hown hg _; obtain ⟨A5, c5, rfl, _, _, _, _⟩ := wide_form hown; have HF5 := Lib.hid (HFA5.out.grown hg fun k hk => .inr (World.ownsRow.lt HOA5.out k hk).1); have HO5 := Lib.hid (ops_snoc (l := ops4) (by rw [hlen4]; exact hown)); clear hown hg)
              obtain ⟨ops5, hops5⟩ : ∃ ops5, ops5 = ops4 ++ [(⟨3, 0, ⟨#[]⟩, none, 0, []⟩ : Oj)] := ⟨_, rfl⟩
              have hlen5 : ops5.length = ops4.length + 1 := by rw [hops5, List.length_append]; rfl
              have HB5 : Hid (Bare ops5) := Lib.hid (by rw [hops5]; exact HB4.out.snoc 3 0 _)
              rw [← hops5] at HO5
              clear hops5
              have HP5 : Hid (w5.ownsRow w.heap.size 27 4 (.slice A5 ops5.length c5) ops5.length (opCells ops5)) := Lib.hid (by have h9 := HO5.out; rw [hlen5, hlen4] at h9 ⊢; exact h9)
              go_wp2_with fail
              go_roundw
              case rel => exact ⟨i + 1, ops5, A5, c5, by omega, by go_num, by rw [hlen5, hlen4], HP5.out, HB5.out, by omega, HF5.out⟩
              case measure => simp [intOf]; omega
            · have HOA4 : Hid ((wr.alloc (.cells #[.int .i64 4, .int .i64 0, .string ⟨#[]⟩, .slice none 0 0] 27)).ownsRow w.heap.size 27 4 (.slice V1 ops1.length cv1) (ops1.length) (opCells ops1)) := Lib.hid (wide_fr HO1.out ((Fr.refl (fun _ => False) wr).alloc (.cells #[.int .i64 4, .int .i64 0, .string ⟨#[]⟩, .slice none 0 0] 27)) fun _ _ => id)
              have HFA4 := Lib.hid (HF1.out.alloc (.cells #[.int .i64 4, .int .i64 0, .string ⟨#[]⟩, .slice none 0 0] 27))
              have HRD4 := Lib.hid (op_lit wr 4 0 ⟨#[]⟩)
              have hbs4 : w.heap.size ≤ (wr.alloc (.cells #[.int .i64 4, .int .i64 0, .string ⟨#[]⟩, .slice none 0 0] 27)).heap.size := HFA4.out.size
              go_wp2_with (at_builtin; refine wpList_append_wide _ rfl (.tmp 44) (.tmp 46) 22 rfl w.heap.size 27 i0 _ 4 56 Tryz.underlying22 hi0 hz0 hz1 hz2 rfl (by decide) (.slice V1 ops1.length cv1) ((ops1.length)) (opCells ops1) rfl HOA4.out (some ⟨wr.heap.size, 0, none⟩) 1 1 [.int .i64 4, .int .i64 0, .string ⟨#[]⟩, .slice none 0 0] rfl rfl HRD4.out (by intro u hu; simp at hu; rcases hu with rfl | rfl | rfl | rfl <;> rfl) (by unfold maxLen; omega) (by omega) hbs4 ?_; intro v4 w4 hown hg _; obtain ⟨A4, c4, rfl, _, _, _, _⟩ := wide_form hown; have HF4 := Lib.hid (HFA4.out.grown hg fun k hk => .inr (World.ownsRow.lt HOA4.out k hk).1); have HO4 := Lib.hid (ops_snoc hown); clear hown hg)
              obtain ⟨ops4, hops4⟩ : ∃ ops4, ops4 = ops1 ++ [(⟨4, 0, ⟨#[]⟩, none, 0, []⟩ : Oj)] := ⟨_, rfl⟩
              have hlen4 : ops4.length = ops1.length + 1 := by rw [hops4, List.length_append]; rfl
              have HB4 : Hid (Bare ops4) := Lib.hid (by rw [hops4]; exact HB1.out.snoc 4 0 _)
              rw [← hops4] at HO4
              clear hops4
              have HP4 : Hid (w4.ownsRow w.heap.size 27 4 (.slice A4 ops4.length c4) ops4.length (opCells ops4)) := Lib.hid (by have h9 := HO4.out; rw [hlen4] at h9 ⊢; exact h9)
              go_wp2_with fail
              go_roundw
              case rel => exact ⟨i + 1, ops4, A4, c4, by omega, by go_num, by rw [hlen4], HP4.out, HB4.out, by omega, HF4.out⟩
              case measure => simp [intOf]; omega
          · by_cases q11 : i % 11 = 5
            · have HOA5 : Hid ((wr.alloc (.cells #[.int .i64 3, .int .i64 0, .string ⟨#[]⟩, .slice none 0 0] 27)).ownsRow w.heap.size 27 4 (.slice V1 ops1.length cv1) (ops1.length) (opCells ops1)) := Lib.hid (wide_fr HO1.out ((Fr.refl (fun _ => False) wr).alloc (.cells #[.int .i64 3, .int .i64 0, .string ⟨#[]⟩, .slice none 0 0] 27)) fun _ _ => id)
              have HFA5 := Lib.hid (HF1.out.alloc (.cells #[.int .i64 3, .int .i64 0, .string ⟨#[]⟩, .slice none 0 0] 27))
              have HRD5 := Lib.hid (op_lit wr 3 0 ⟨#[]⟩)
              have hbs5 : w.heap.size ≤ (wr.alloc (.cells #[.int .i64 3, .int .i64 0, .string ⟨#[]⟩, .slice none 0 0] 27)).heap.size := HFA5.out.size
              go_wp2_with (at_builtin; refine wpList_append_wide _ rfl (.tmp 51) (.tmp 53) 22 rfl w.heap.size 27 i0 _ 4 56 Tryz.underlying22 hi0 hz0 hz1 hz2 rfl (by decide) (.slice V1 ops1.length cv1) ((ops1.length)) (opCells ops1) rfl HOA5.out (some ⟨wr.heap.size, 0, none⟩) 1 1 [.int .i64 3, .int .i64 0, .string ⟨#[]⟩, .slice none 0 0] rfl rfl HRD5.out (by intro u hu; simp at hu; rcases hu with rfl | rfl | rfl | rfl <;> rfl) (by unfold maxLen; omega) (by omega) hbs5 ?_; intro v5 w5 hown hg _; obtain ⟨A5, c5, rfl, _, _, _, _⟩ := wide_form hown; have HF5 := Lib.hid (HFA5.out.grown hg fun k hk => .inr (World.ownsRow.lt HOA5.out k hk).1); have HO5 := Lib.hid (ops_snoc hown); clear hown hg)
              obtain ⟨ops5, hops5⟩ : ∃ ops5, ops5 = ops1 ++ [(⟨3, 0, ⟨#[]⟩, none, 0, []⟩ : Oj)] := ⟨_, rfl⟩
              have hlen5 : ops5.length = ops1.length + 1 := by rw [hops5, List.length_append]; rfl
              have HB5 : Hid (Bare ops5) := Lib.hid (by rw [hops5]; exact HB1.out.snoc 3 0 _)
              rw [← hops5] at HO5
              clear hops5
              have HP5 : Hid (w5.ownsRow w.heap.size 27 4 (.slice A5 ops5.length c5) ops5.length (opCells ops5)) := Lib.hid (by have h9 := HO5.out; rw [hlen5] at h9 ⊢; exact h9)
              go_wp2_with fail
              go_roundw
              case rel => exact ⟨i + 1, ops5, A5, c5, by omega, by go_num, by rw [hlen5], HP5.out, HB5.out, by omega, HF5.out⟩
              case measure => simp [intOf]; omega
            · go_wp2_with fail
              go_roundw
              case rel => exact ⟨i + 1, ops1, V1, cv1, by omega, by go_num, rfl, HO1.out, HB1.out, by omega, HF1.out⟩
              case measure => simp [intOf]; omega
    · have d0 : decide (i < nn) = false := decide_eq_false hlt
      have d00 : decide ((i : Int) < (nn : Int)) = false := decide_eq_false (by omega)
      have KP := play_any (w := wo) (A := V0) (c := cv0) (l := ops0) (wide_rd HO0.out) (HB0.out.ok wo wo.heap.size) (by omega)
      go_wp2_with fail
      refine KP.mono ?_
      rintro e w7 ⟨rfl, f7⟩
      have HF7 := Lib.hid (HF0.out.trans f7 fun _ _ h => h)
      clear KP f7
      go_wp2_with fail
      go_ret
      exact ⟨rfl, HF7.out.toBelow0⟩
end Go.Proofs.YtdoljggaoidljaaGreat
/- JournalQuiet (P8.2 to P8.4): without cuts a journal finds its last records again whenever it is opened, at least sixteen of them, and its safety state for ever, and never lacks room. For every text, every row of texts and every whole number; no condition. -/
namespace Go.Proofs.YtdoljggaoidljaaGreat.journalQuiet
open Go.ChangeShapes Go.WideShapes Go.ChangeAt Go.RowKit
open Go.ChangeMaps (open_string shut_string)

set_option maxRecDepth 100000 in
theorem lifted (os : Os) (started : os.Started) (H : Type) (enc : TypeId × Value → H) :
    ReturnsInHanded {} Tryz.checked os 5 .any (Rows.journalQuietSpec.pre6 enc Tryz.prog Tryz.f5 Rows.journalQuietRow.domain false) (Rows.journalQuietSpec.post enc Tryz.prog Tryz.f5 false true false false) := by
  refine returnsInHanded_of_change_sized (C := Tryz.checked) Tryz.own started (by kernel_rfl) Tryz.func5
    (ChangeSpec.witness6 (enc := enc) (C := Tryz.checked) false ⟨#[], #[.string .empty, .slice none 0 0, .int .i64 0], []⟩ 8 (by kernel_rfl) (by kernel_rfl) (by kernel_rfl) (by kernel_rfl)) ?_
  intro W base args ds gs before hval0 hW hcnd0 hsz0 _
  have hval : ∀ (j : Nat) t v, Tryz.f5.params[j]? = some t → args[j]? = some v → Value.okWide Tryz.prog W .any base t v := hval0
  have hW' := hW
  obtain ⟨p, q, hA0, hV, rfl, hfz, hnd⟩ := hW
  have hA : DataW.TrodAll enc Tryz.prog W 0 (fun _ => true) true Tryz.f5.params.toList args.toList ds p := hA0
  have hsz : (DataW.weightsEach Tryz.prog (Tryz.f5.params.toList ++ Rows.journalQuietSpec.plain.varTypes Tryz.prog) (ds ++ gs)).all (· ≤ reachBytes) = true := hsz0
  rw [Tryz.params5] at hA hval hsz
  obtain ⟨v0, v1, v2, d0, d1, d2, p0, p1, p2, rfl, rfl, rfl, h0, h1, h2⟩ := trodAll_three hA
  obtain ⟨rfl, rfl⟩ := trodVars_none hV
  obtain ⟨s0, rfl, rfl, rfl, hs0⟩ := open_string Tryz.underlying9 (hval 0 9 v0 rfl rfl) h0
  obtain ⟨A1, c1, l1, rfl, hl1, hd1, _⟩ := open_texts (hval 1 31 v1 rfl rfl) h1
  obtain ⟨a2, rfl, rfl, rfl, w2⟩ := open_int Tryz.underlying3 (hval 2 3 v2 rfl rfl) h2
  have b2 : -9223372036854775808 ≤ a2 ∧ a2 ≤ 9223372036854775807 := by
    simp only [Lit.wf, IntKind.min, IntKind.max, IntKind.signed, IntKind.bits, Bool.and_eq_true, decide_eq_true_eq, if_true] at w2
    have := w2.1
    have := w2.2
    omega
  have z0 : s0.size ≤ 140737488351232 := by
    have k := sized_string hsz (j := 0) (t := 9) rfl rfl
    have e : s0.data.toList.length = s0.size := by rw [Array.length_toList]; rfl
    unfold reachBytes at k
    omega
  have n1 : l1.length * 16 ≤ 140737488351232 := by
    rcases hd1 with ⟨_, rfl⟩ | ⟨rest, rfl⟩
    · simp
    · have := sized_slice hsz (j := 1) (t := 31) (e := 9) rfl rfl Tryz.underlying31
      have e9 : (strs (H := H) l1).length = l1.length := by simp [strs]
      rw [bytes_string, e9] at this
      unfold reachBytes at this
      omega
  refine (quiet_walk W s0 A1 c1 l1 a2 hl1 (by omega)).mono fun e W' ⟨he, hb⟩ => ?_
  subst he
  exact law_post hW' rfl (by kernel_rfl) (by rw [Tryz.params5]; exact of_decide_eq_true (by kernel_rfl)) rfl rfl rfl hb

theorem proved : Rows.JournalQuietSaid :=
  OpenClaim.holds_of_wide 5 Tryz.f5 rfl rfl rfl rfl rfl rfl rfl ⟨rfl, rfl, rfl, rfl, rfl⟩ rfl rfl rfl rfl rfl (by kernel_rfl) Tryz.func5 (by kernel_rfl)
    (of_decide_eq_true (by kernel_rfl)) (by unfold Func.isWrapper; first | (rw [if_pos (by decide +kernel)]; kernel_rfl) | (rw [if_neg (by decide +kernel)]; exact ⟨rfl, rfl⟩))
    (fun os started H enc _ => lifted os started H enc)
end Go.Proofs.YtdoljggaoidljaaGreat.journalQuiet

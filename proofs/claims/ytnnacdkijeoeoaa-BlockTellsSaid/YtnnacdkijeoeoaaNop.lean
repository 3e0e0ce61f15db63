/- Contracts and plain mathematics of earlier stages: Nop. -/
import Derived.Test.YtnnacdkijeoeoaaNm
import Derived.Test.YtnnacdkijeoeoaaKx
namespace Go.Proofs.Ytnnacdkijeoeoaa.Nk
open Go.ChangeShapes Go.WideShapes Go.ChangeAt Go.RowKit Go.Deep Go.Joins Lk

theorem cells_bool : Try.prog.cellsOf 4 = 1 := by kernel_rfl
theorem cells_rs : Try.prog.cellsOf 87 = 4 := by kernel_rfl
theorem cells_mo : Try.prog.cellsOf 89 = 2 := by kernel_rfl
theorem cells_ln : Try.prog.cellsOf 49 = 8 := by kernel_rfl
theorem cells_lo : Try.prog.cellsOf 51 = 3 := by kernel_rfl
theorem cells_core : Try.prog.cellsOf 35 = 7 := by kernel_rfl
theorem cells_view : Try.prog.cellsOf 40 = 4 := by kernel_rfl
theorem by_rs : Try.prog.bytesOf 87 = 32 := by kernel_rfl
theorem by_mo : Try.prog.bytesOf 89 = 16 := by kernel_rfl
theorem by_ln : Try.prog.bytesOf 49 = 64 := by kernel_rfl
section
variable {H : Type} {enc : TypeId × Value → H} {w : World} {base : Nat}
theorem cells_blk : Try.prog.cellsOf 37 = 3 := by kernel_rfl
set_option maxRecDepth 100000 in
theorem blk_of {n : Nat} {cs : List Value} {y : DataW H × List MemPlace} (h : DataW.trod enc Try.prog w 0 (fun _ => true) true n 37 cs = some y) : ∃ s : (Int × Int × Int), cs = (fun s : Int × Int × Int => ([.int .i64 s.1, .int .i64 s.2.1, .int .i64 s.2.2] : List Value)) s := by
  obtain ⟨xs, m, _, hx, hlen, hxl, hf⟩ := DataW.trod_struct Try.underlying37 h
  rw [cells_blk] at hlen
  match cs, hlen with
  | [c0, c1, c2], _ =>
    match xs, hxl with
    | [x0, x1, x2], _ =>
      have h0 : DataW.trod enc Try.prog w 0 (fun _ => true) true m 3 (([c0, c1, c2].drop 0).take (Try.prog.cellsOf 3)) = some x0 := hf 0 _ rfl
      have h1 : DataW.trod enc Try.prog w 0 (fun _ => true) true m 3 (([c0, c1, c2].drop 1).take (Try.prog.cellsOf 3)) = some x1 := hf 1 _ rfl
      have h2 : DataW.trod enc Try.prog w 0 (fun _ => true) true m 3 (([c0, c1, c2].drop 2).take (Try.prog.cellsOf 3)) = some x2 := hf 2 _ rfl
      rw [Try.cellInt] at h0
      rw [Try.cellInt] at h1
      rw [Try.cellInt] at h2
      obtain ⟨a0, rfl, -⟩ := int_of (show DataW.trod enc Try.prog w 0 (fun _ => true) true m 3 [c0] = some x0 from h0)
      obtain ⟨a1, rfl, -⟩ := int_of (show DataW.trod enc Try.prog w 0 (fun _ => true) true m 3 [c1] = some x1 from h1)
      obtain ⟨a2, rfl, -⟩ := int_of (show DataW.trod enc Try.prog w 0 (fun _ => true) true m 3 [c2] = some x2 from h2)
      exact ⟨⟨a0, a1, a2⟩, rfl⟩
set_option maxRecDepth 100000 in
theorem rs_of {n : Nat} {cs : List Value} {y : DataW H × List MemPlace} (h : DataW.trod enc Try.prog w 0 (fun _ => true) true n 87 cs = some y) : ∃ s : Rs, cs = cRs s := by
  obtain ⟨xs, m, _, hx, hlen, hxl, hf⟩ := DataW.trod_struct Try.underlying87 h
  rw [cells_rs] at hlen
  match cs, hlen with
  | [c0, c1, c2, c3], _ =>
    match xs, hxl with
    | [x0, x1, x2, x3], _ =>
      have h0 : DataW.trod enc Try.prog w 0 (fun _ => true) true m 3 (([c0, c1, c2, c3].drop 0).take (Try.prog.cellsOf 3)) = some x0 := hf 0 _ rfl
      have h1 : DataW.trod enc Try.prog w 0 (fun _ => true) true m 3 (([c0, c1, c2, c3].drop 1).take (Try.prog.cellsOf 3)) = some x1 := hf 1 _ rfl
      have h2 : DataW.trod enc Try.prog w 0 (fun _ => true) true m 3 (([c0, c1, c2, c3].drop 2).take (Try.prog.cellsOf 3)) = some x2 := hf 2 _ rfl
      have h3 : DataW.trod enc Try.prog w 0 (fun _ => true) true m 3 (([c0, c1, c2, c3].drop 3).take (Try.prog.cellsOf 3)) = some x3 := hf 3 _ rfl
      rw [Try.cellInt] at h0
      rw [Try.cellInt] at h1
      rw [Try.cellInt] at h2
      rw [Try.cellInt] at h3
      obtain ⟨a0, rfl, -⟩ := int_of (show DataW.trod enc Try.prog w 0 (fun _ => true) true m 3 [c0] = some x0 from h0)
      obtain ⟨a1, rfl, -⟩ := int_of (show DataW.trod enc Try.prog w 0 (fun _ => true) true m 3 [c1] = some x1 from h1)
      obtain ⟨a2, rfl, -⟩ := int_of (show DataW.trod enc Try.prog w 0 (fun _ => true) true m 3 [c2] = some x2 from h2)
      obtain ⟨a3, rfl, -⟩ := int_of (show DataW.trod enc Try.prog w 0 (fun _ => true) true m 3 [c3] = some x3 from h3)
      exact ⟨⟨a0, a1, a2, a3⟩, rfl⟩
set_option maxRecDepth 100000 in
theorem open_rss {n : Nat} {v : Value} {y : DataW H × List MemPlace} (h : DataW.trod enc Try.prog w 0 (fun _ => true) true n 31 [v] = some y) :
    ∃ (A : Option Addr) (c : Nat) (l : List Rs), v = .slice A l.length c ∧ Rd w A (l.flatMap cRs) ∧ SL y.1 l.length := by
  obtain ⟨A, c, l, e, r, -, -, s⟩ := open_flatQ (fun (_ : Rs) _ => True) 4 cRs (fun _ => rfl) Try.underlying31 cells_rs (fun _ _ _ h => by obtain ⟨a, e⟩ := rs_of h; exact ⟨a, e, trivial⟩) h
  refine ⟨A, c, l, e, r, ?_⟩
  rcases s with ⟨a, b⟩ | ⟨es, rest, a, b, -⟩
  · exact .inl ⟨a, by rw [b]; rfl⟩
  · exact .inr ⟨es, rest, a, b⟩
set_option maxRecDepth 100000 in
theorem mo_of {n : Nat} {cs : List Value} {y : DataW H × List MemPlace} (h : DataW.trod enc Try.prog w 0 (fun _ => true) true n 89 cs = some y) : ∃ s : Mo, cs = cMo s := by
  obtain ⟨xs, m, _, hx, hlen, hxl, hf⟩ := DataW.trod_struct Try.underlying89 h
  rw [cells_mo] at hlen
  match cs, hlen with
  | [c0, c1], _ =>
    match xs, hxl with
    | [x0, x1], _ =>
      have h0 : DataW.trod enc Try.prog w 0 (fun _ => true) true m 3 (([c0, c1].drop 0).take (Try.prog.cellsOf 3)) = some x0 := hf 0 _ rfl
      have h1 : DataW.trod enc Try.prog w 0 (fun _ => true) true m 3 (([c0, c1].drop 1).take (Try.prog.cellsOf 3)) = some x1 := hf 1 _ rfl
      rw [Try.cellInt] at h0
      rw [Try.cellInt] at h1
      obtain ⟨a0, rfl, -⟩ := int_of (show DataW.trod enc Try.prog w 0 (fun _ => true) true m 3 [c0] = some x0 from h0)
      obtain ⟨a1, rfl, -⟩ := int_of (show DataW.trod enc Try.prog w 0 (fun _ => true) true m 3 [c1] = some x1 from h1)
      exact ⟨⟨a0, a1⟩, rfl⟩
set_option maxRecDepth 100000 in
theorem open_mos {n : Nat} {v : Value} {y : DataW H × List MemPlace} (h : DataW.trod enc Try.prog w 0 (fun _ => true) true n 32 [v] = some y) :
    ∃ (A : Option Addr) (c : Nat) (l : List Mo), v = .slice A l.length c ∧ Rd w A (l.flatMap cMo) ∧ SL y.1 l.length := by
  obtain ⟨A, c, l, e, r, -, -, s⟩ := open_flatQ (fun (_ : Mo) _ => True) 2 cMo (fun _ => rfl) Try.underlying32 cells_mo (fun _ _ _ h => by obtain ⟨a, e⟩ := mo_of h; exact ⟨a, e, trivial⟩) h
  refine ⟨A, c, l, e, r, ?_⟩
  rcases s with ⟨a, b⟩ | ⟨es, rest, a, b, -⟩
  · exact .inl ⟨a, by rw [b]; rfl⟩
  · exact .inr ⟨es, rest, a, b⟩
set_option maxRecDepth 100000 in
theorem ln_of {n : Nat} {cs : List Value} {y : DataW H × List MemPlace} (h : DataW.trod enc Try.prog w 0 (fun _ => true) true n 49 cs = some y) : ∃ s : Ln, cs = cLn s := by
  obtain ⟨xs, m, _, hx, hlen, hxl, hf⟩ := DataW.trod_struct Try.underlying49 h
  rw [cells_ln] at hlen
  match cs, hlen with
  | [c0, c1, c2, c3, c4, c5, c6, c7], _ =>
    match xs, hxl with
    | [x0, x1, x2, x3, x4, x5], _ =>
      have h0 : DataW.trod enc Try.prog w 0 (fun _ => true) true m 3 (([c0, c1, c2, c3, c4, c5, c6, c7].drop 0).take (Try.prog.cellsOf 3)) = some x0 := hf 0 _ rfl
      have h1 : DataW.trod enc Try.prog w 0 (fun _ => true) true m 3 (([c0, c1, c2, c3, c4, c5, c6, c7].drop 1).take (Try.prog.cellsOf 3)) = some x1 := hf 1 _ rfl
      have h2 : DataW.trod enc Try.prog w 0 (fun _ => true) true m 3 (([c0, c1, c2, c3, c4, c5, c6, c7].drop 2).take (Try.prog.cellsOf 3)) = some x2 := hf 2 _ rfl
      have h3 : DataW.trod enc Try.prog w 0 (fun _ => true) true m 3 (([c0, c1, c2, c3, c4, c5, c6, c7].drop 3).take (Try.prog.cellsOf 3)) = some x3 := hf 3 _ rfl
      have h4 : DataW.trod enc Try.prog w 0 (fun _ => true) true m 37 (([c0, c1, c2, c3, c4, c5, c6, c7].drop 4).take (Try.prog.cellsOf 37)) = some x4 := hf 4 _ rfl
      have h5 : DataW.trod enc Try.prog w 0 (fun _ => true) true m 3 (([c0, c1, c2, c3, c4, c5, c6, c7].drop 7).take (Try.prog.cellsOf 3)) = some x5 := hf 5 _ rfl
      rw [Try.cellInt] at h0 h1 h2 h3 h5
      rw [cells_blk] at h4
      obtain ⟨a0, rfl, -⟩ := int_of (show DataW.trod enc Try.prog w 0 (fun _ => true) true m 3 [c0] = some x0 from h0)
      obtain ⟨a1, rfl, -⟩ := int_of (show DataW.trod enc Try.prog w 0 (fun _ => true) true m 3 [c1] = some x1 from h1)
      obtain ⟨a2, rfl, -⟩ := int_of (show DataW.trod enc Try.prog w 0 (fun _ => true) true m 3 [c2] = some x2 from h2)
      obtain ⟨a3, rfl, -⟩ := int_of (show DataW.trod enc Try.prog w 0 (fun _ => true) true m 3 [c3] = some x3 from h3)
      obtain ⟨a5, rfl, -⟩ := int_of (show DataW.trod enc Try.prog w 0 (fun _ => true) true m 3 [c7] = some x5 from h5)
      obtain ⟨⟨p0, p1, p2⟩, ep⟩ := blk_of (show DataW.trod enc Try.prog w 0 (fun _ => true) true m 37 [c4, c5, c6] = some x4 from h4)
      simp only [List.cons.injEq, and_true] at ep
      obtain ⟨rfl, rfl, rfl⟩ := ep
      exact ⟨⟨a0, a1, a2, a3, p0, p1, p2, a5⟩, rfl⟩
set_option maxRecDepth 100000 in
theorem open_lns {n : Nat} {v : Value} {y : DataW H × List MemPlace} (h : DataW.trod enc Try.prog w 0 (fun _ => true) true n 33 [v] = some y) :
    ∃ (A : Option Addr) (c : Nat) (l : List Ln), v = .slice A l.length c ∧ Rd w A (l.flatMap cLn) ∧ SL y.1 l.length := by
  obtain ⟨A, c, l, e, r, -, -, s⟩ := open_flatQ (fun (_ : Ln) _ => True) 8 cLn (fun _ => rfl) Try.underlying33 cells_ln (fun _ _ _ h => by obtain ⟨a, e⟩ := ln_of h; exact ⟨a, e, trivial⟩) h
  refine ⟨A, c, l, e, r, ?_⟩
  rcases s with ⟨a, b⟩ | ⟨es, rest, a, b, -⟩
  · exact .inl ⟨a, by rw [b]; rfl⟩
  · exact .inr ⟨es, rest, a, b⟩
set_option maxRecDepth 100000 in
theorem lo_of {n : Nat} {cs : List Value} {y : DataW H × List MemPlace} (h : DataW.trod enc Try.prog w 0 (fun _ => true) true n 51 cs = some y) : ∃ s : Lo, cs = cLo s := by
  obtain ⟨xs, m, _, hx, hlen, hxl, hf⟩ := DataW.trod_struct Try.underlying51 h
  rw [cells_lo] at hlen
  match cs, hlen with
  | [c0, c1, c2], _ =>
    match xs, hxl with
    | [x0, x1, x2], _ =>
      have h0 : DataW.trod enc Try.prog w 0 (fun _ => true) true m 3 (([c0, c1, c2].drop 0).take (Try.prog.cellsOf 3)) = some x0 := hf 0 _ rfl
      have h1 : DataW.trod enc Try.prog w 0 (fun _ => true) true m 3 (([c0, c1, c2].drop 1).take (Try.prog.cellsOf 3)) = some x1 := hf 1 _ rfl
      have h2 : DataW.trod enc Try.prog w 0 (fun _ => true) true m 4 (([c0, c1, c2].drop 2).take (Try.prog.cellsOf 4)) = some x2 := hf 2 _ rfl
      rw [Try.cellInt] at h0
      rw [Try.cellInt] at h1
      rw [cells_bool] at h2
      obtain ⟨a0, rfl, -⟩ := int_of (show DataW.trod enc Try.prog w 0 (fun _ => true) true m 3 [c0] = some x0 from h0)
      obtain ⟨a1, rfl, -⟩ := int_of (show DataW.trod enc Try.prog w 0 (fun _ => true) true m 3 [c1] = some x1 from h1)
      obtain ⟨a2, e2, _⟩ := DataW.trod_bool Try.underlying4 (show DataW.trod enc Try.prog w 0 (fun _ => true) true m 4 [c2] = some x2 from h2)
      have e2 : c2 = .bool a2 := by simpa using e2
      subst e2
      exact ⟨⟨a0, a1, a2⟩, rfl⟩
set_option maxRecDepth 100000 in
theorem open_los {n : Nat} {v : Value} {y : DataW H × List MemPlace} (h : DataW.trod enc Try.prog w 0 (fun _ => true) true n 38 [v] = some y) :
    ∃ (A : Option Addr) (c : Nat) (l : List Lo), v = .slice A l.length c ∧ Rd w A (l.flatMap cLo) ∧ SL y.1 l.length := by
  obtain ⟨A, c, l, e, r, -, -, s⟩ := open_flatQ (fun (_ : Lo) _ => True) 3 cLo (fun _ => rfl) Try.underlying38 cells_lo (fun _ _ _ h => by obtain ⟨a, e⟩ := lo_of h; exact ⟨a, e, trivial⟩) h
  refine ⟨A, c, l, e, r, ?_⟩
  rcases s with ⟨a, b⟩ | ⟨es, rest, a, b, -⟩
  · exact .inl ⟨a, by rw [b]; rfl⟩
  · exact .inr ⟨es, rest, a, b⟩
theorem cells_Lln : Try.prog.cellsOf 33 = 1 := by kernel_rfl
theorem cells_Llo : Try.prog.cellsOf 38 = 1 := by kernel_rfl
theorem cells_Lmo : Try.prog.cellsOf 32 = 1 := by kernel_rfl
theorem cells_Lrs : Try.prog.cellsOf 31 = 1 := by kernel_rfl
theorem cells_Li : Try.prog.cellsOf 25 = 1 := by kernel_rfl
/-- what is known of a state that came in -/
structure CoIn (w : World) (K : Km) (d : DataW H) : Prop where
  own : Rd w K.A1 (K.own.map (Value.int .i64))
  rts : Rd w K.A2 (K.rts.flatMap cRs)
  pts : Rd w K.A3 (K.pts.flatMap cMo)
  crs : Rd w K.A4 (K.crs.flatMap cMo)
  lns : Rd w K.A5 (K.lns.flatMap cLn)
  rss : Rd w K.A6 (K.rss.map (Value.int .i64))
  data : ∃ d1 d2 d3 d4 d5 d6 d7, d = .agg [d1, d2, d3, d4, d5, d6, d7] ∧ SL d1 K.own.length ∧ SL d2 K.rts.length ∧ SL d3 K.pts.length ∧ SL d4 K.crs.length ∧ SL d5 K.lns.length ∧ SL d6 K.rss.length
set_option maxRecDepth 100000 in
set_option maxHeartbeats 1000000 in
theorem open_core {v : Value} {d : DataW H} {ps : List MemPlace} (hv : Value.okWide Try.prog w .any base 35 v) (h : DataW.Trod enc Try.prog w 0 (fun _ => true) true 35 v d ps) : ∃ K : Km, v = K.val ∧ CoIn w K d := by
  simp only [Value.okWide, Try.underlying35] at hv
  obtain ⟨cs, rfl, hcs, _⟩ := hv
  obtain ⟨fuel, hf0⟩ := h
  obtain ⟨l⟩ := cs
  obtain ⟨xs, m, _, hx, hlen, hxl, hf⟩ := DataW.trod_struct Try.underlying35 hf0
  rw [cells_core] at hlen
  match l, hlen with
  | [c0, c1, c2, c3, c4, c5, c6], _ =>
    match xs, hxl with
    | [x0, x1, x2, x3, x4, x5, x6], _ =>
      have h0 : DataW.trod enc Try.prog w 0 (fun _ => true) true m 25 (([c0, c1, c2, c3, c4, c5, c6].drop 0).take (Try.prog.cellsOf 25)) = some x0 := hf 0 _ rfl
      have h1 : DataW.trod enc Try.prog w 0 (fun _ => true) true m 31 (([c0, c1, c2, c3, c4, c5, c6].drop 1).take (Try.prog.cellsOf 31)) = some x1 := hf 1 _ rfl
      have h2 : DataW.trod enc Try.prog w 0 (fun _ => true) true m 32 (([c0, c1, c2, c3, c4, c5, c6].drop 2).take (Try.prog.cellsOf 32)) = some x2 := hf 2 _ rfl
      have h3 : DataW.trod enc Try.prog w 0 (fun _ => true) true m 32 (([c0, c1, c2, c3, c4, c5, c6].drop 3).take (Try.prog.cellsOf 32)) = some x3 := hf 3 _ rfl
      have h4 : DataW.trod enc Try.prog w 0 (fun _ => true) true m 33 (([c0, c1, c2, c3, c4, c5, c6].drop 4).take (Try.prog.cellsOf 33)) = some x4 := hf 4 _ rfl
      have h5 : DataW.trod enc Try.prog w 0 (fun _ => true) true m 25 (([c0, c1, c2, c3, c4, c5, c6].drop 5).take (Try.prog.cellsOf 25)) = some x5 := hf 5 _ rfl
      have h6 : DataW.trod enc Try.prog w 0 (fun _ => true) true m 4 (([c0, c1, c2, c3, c4, c5, c6].drop 6).take (Try.prog.cellsOf 4)) = some x6 := hf 6 _ rfl
      rw [cells_Li] at h0
      rw [cells_Lrs] at h1
      rw [cells_Lmo] at h2
      rw [cells_Lmo] at h3
      rw [cells_Lln] at h4
      rw [cells_Li] at h5
      rw [cells_bool] at h6
      obtain ⟨A0, k0, l0, rfl, r0, -, -, s0, -⟩ := open_nums (show DataW.trod enc Try.prog w 0 (fun _ => true) true m 25 [c0] = some x0 from h0)
      obtain ⟨A1, k1, l1, rfl, r1, s1⟩ := open_rss (show DataW.trod enc Try.prog w 0 (fun _ => true) true m 31 [c1] = some x1 from h1)
      obtain ⟨A2, k2, l2, rfl, r2, s2⟩ := open_mos (show DataW.trod enc Try.prog w 0 (fun _ => true) true m 32 [c2] = some x2 from h2)
      obtain ⟨A3, k3, l3, rfl, r3, s3⟩ := open_mos (show DataW.trod enc Try.prog w 0 (fun _ => true) true m 32 [c3] = some x3 from h3)
      obtain ⟨A4, k4, l4, rfl, r4, s4⟩ := open_lns (show DataW.trod enc Try.prog w 0 (fun _ => true) true m 33 [c4] = some x4 from h4)
      obtain ⟨A5, k5, l5, rfl, r5, -, -, s5, -⟩ := open_nums (show DataW.trod enc Try.prog w 0 (fun _ => true) true m 25 [c5] = some x5 from h5)
      obtain ⟨b6, e6, _⟩ := DataW.trod_bool Try.underlying4 (show DataW.trod enc Try.prog w 0 (fun _ => true) true m 4 [c6] = some x6 from h6)
      have e6 : c6 = .bool b6 := by simpa using e6
      subst e6
      have hd : d = .agg [x0.1, x1.1, x2.1, x3.1, x4.1, x5.1, x6.1] := by
        have := congrArg Prod.fst hx
        exact this
      exact ⟨⟨A0, k0, l0, A1, k1, l1, A2, k2, l2, A3, k3, l3, A4, k4, l4, A5, k5, l5, b6⟩, rfl, ⟨r0, r1, r2, r3, r4, r5, x0.1, x1.1, x2.1, x3.1, x4.1, x5.1, x6.1, hd, s0, s1, s2, s3, s4, s5⟩⟩
set_option maxRecDepth 100000 in
set_option maxHeartbeats 1000000 in
theorem view_of {n : Nat} {cs : List Value} {y : DataW H × List MemPlace} (h : DataW.trod enc Try.prog w 0 (fun _ => true) true n 40 cs = some y) : ∃ V : Vm, cs = V.arr.toList ∧ V.Ok w := by
  obtain ⟨xs, m, _, hx, hlen, hxl, hf⟩ := DataW.trod_struct Try.underlying40 h
  rw [cells_view] at hlen
  match cs, hlen with
  | [c0, c1, c2, c3], _ =>
    match xs, hxl with
    | [x0, x1, x2, x3], _ =>
      have h0 : DataW.trod enc Try.prog w 0 (fun _ => true) true m 38 (([c0, c1, c2, c3].drop 0).take (Try.prog.cellsOf 38)) = some x0 := hf 0 _ rfl
      have h1 : DataW.trod enc Try.prog w 0 (fun _ => true) true m 38 (([c0, c1, c2, c3].drop 1).take (Try.prog.cellsOf 38)) = some x1 := hf 1 _ rfl
      have h2 : DataW.trod enc Try.prog w 0 (fun _ => true) true m 38 (([c0, c1, c2, c3].drop 2).take (Try.prog.cellsOf 38)) = some x2 := hf 2 _ rfl
      have h3 : DataW.trod enc Try.prog w 0 (fun _ => true) true m 38 (([c0, c1, c2, c3].drop 3).take (Try.prog.cellsOf 38)) = some x3 := hf 3 _ rfl
      rw [cells_Llo] at h0
      rw [cells_Llo] at h1
      rw [cells_Llo] at h2
      rw [cells_Llo] at h3
      obtain ⟨A0, k0, l0, rfl, r0, s0⟩ := open_los (show DataW.trod enc Try.prog w 0 (fun _ => true) true m 38 [c0] = some x0 from h0)
      obtain ⟨A1, k1, l1, rfl, r1, s1⟩ := open_los (show DataW.trod enc Try.prog w 0 (fun _ => true) true m 38 [c1] = some x1 from h1)
      obtain ⟨A2, k2, l2, rfl, r2, s2⟩ := open_los (show DataW.trod enc Try.prog w 0 (fun _ => true) true m 38 [c2] = some x2 from h2)
      obtain ⟨A3, k3, l3, rfl, r3, s3⟩ := open_los (show DataW.trod enc Try.prog w 0 (fun _ => true) true m 38 [c3] = some x3 from h3)
      exact ⟨⟨A0, k0, l0, A1, k1, l1, A2, k2, l2, A3, k3, l3⟩, rfl, ⟨r0, r1, r2, r3⟩⟩
def cyArgs (V : Vm) (now : Int) (rec : Bool) : Value := .agg #[.slice V.A1 V.occ.length V.c1, .slice V.A2 V.pos.length V.c2, .slice V.A3 V.shut.length V.c3, .slice V.A4 V.lamp.length V.c4, .int .i64 now, .bool rec]
theorem co_field {ts : List TypeId} {ds : List (DataW H)} {j : Nat} {d1 d2 d3 d4 d5 d6 d7 : DataW H} (ht : ts[j]? = some 35) (hd : ds[j]? = some (.agg [d1, d2, d3, d4, d5, d6, d7])) {i : Nat} {t : TypeId} {di : DataW H} (hi : [25, 31, 32, 32, 33, 25, 4][i]? = some t) (hdi : [d1, d2, d3, d4, d5, d6, d7][i]? = some di) : ∀ k, k ∈ di.weights Try.prog t → k ∈ DataW.weightsEach Try.prog ts ds := fun k hk => by
  refine DataW.weights_mem_each ht hd _ ?_
  simp only [DataW.weights, Try.underlying35]
  exact DataW.weights_mem_each hi hdi _ hk
/-- what came in is a state that the contracts take -/
theorem core_ok {w : World} {K : Km} {d : DataW H} {ts : List TypeId} {ds : List (DataW H)} {j : Nat} (h : CoIn w K d) (hsz : (DataW.weightsEach Try.prog ts ds).all (· ≤ reachBytes) = true) (ht : ts[j]? = some 35) (hd : ds[j]? = some d) : K.Ok w := by
  obtain ⟨d1, d2, d3, d4, d5, d6, d7, rfl, s1, s2, s3, s4, s5, s6⟩ := h.data
  have b1 := sl_size hsz s1 Try.underlying25 Try.by4 (co_field ht hd (i := 0) rfl rfl)
  have b2 := sl_size hsz s2 Try.underlying31 by_rs (co_field ht hd (i := 1) rfl rfl)
  have b3 := sl_size hsz s3 Try.underlying32 by_mo (co_field ht hd (i := 2) rfl rfl)
  have b4 := sl_size hsz s4 Try.underlying32 by_mo (co_field ht hd (i := 3) rfl rfl)
  have b5 := sl_size hsz s5 Try.underlying33 by_ln (co_field ht hd (i := 4) rfl rfl)
  have b6 := sl_size hsz s6 Try.underlying25 Try.by4 (co_field ht hd (i := 5) rfl rfl)
  exact ⟨h.own, h.rts, h.pts, h.crs, h.lns, h.rss, b1, b2, b3, b4, b5, b6⟩
end
end Go.Proofs.Ytnnacdkijeoeoaa.Nk


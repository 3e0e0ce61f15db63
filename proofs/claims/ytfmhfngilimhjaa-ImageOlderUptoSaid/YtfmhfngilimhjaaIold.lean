/- ImageOlder, its walk. -/
import Derived.Test.YtfmhfngilimhjaaIag
import Derived.Test.YtfmhfngilimhjaaClos
import Derived.Test.YtfmhfngilimhjaaImlost
namespace Go.Proofs.Ytfmhfngilimhjaa.Im
open Go.RowKit Li

/-- behind the first telegram: the controller j says M, whatever was refused since -/
structure Stp (w : World) (b : Nat) (ks : List Kc) (j : Nat) (hj : j < ks.length) (C : Te.Cf) (M : Km) (k : Kc) : Prop where
  im : Im w b (ks.set j k) C
  m : k.m = M
  h : k.h = ks[j].h
  rb : k.rb = ks[j].rb
theorem Stp.fr0 {w w1 : World} {b : Nat} {ks : List Kc} {j : Nat} {hj : j < ks.length} {C : Te.Cf} {M : Km} {k : Kc} (h : Stp w b ks j hj C M k) (f : Fr (fun _ => False) w w1) : Stp w1 b ks j hj C M k := ⟨h.im.fr0 f, h.m, h.h, h.rb⟩
theorem stp_take {w : World} {b : Nat} {ks : List Kc} {j : Nat} {hj : j < ks.length} {C : Te.Cf} {M : Km} {k : Kc} (h : Stp w b ks j hj C M k) (h4 : ks.length = 4) (now : Int) (s : ByteArray) (hn : now ≤ 9223372036854775807) (hl : M.r.lost = 0) (he : (M.r.take now (readL (bytesOf s))).2.1 ≠ 0) :
    Calls Try.prog 15 #[.pointer (some ⟨b, 0, none⟩), .int .i64 now, .int .i64 (j : Int), .string s] w fun e w' => ∃ (k' : Kc) (x : Int), e = .returned (.int .i64 x) ∧ (x == 0) = false ∧ Stp w' b ks j hj C M k' ∧ Fr (fun q => q = b ∨ q = ks[j].rb) w w' := by
  have hj2 : j < (ks.set j k).length := by rw [List.length_set]; exact hj
  have hg : (ks.set j k)[j] = k := List.getElem_set_self _
  have hr : k.r = M.r := congrArg Km.r h.m
  refine (take_in h.im (by rw [List.length_set]; exact h4) hj2 now s hn (by rw [hg, hr, hl]; decide) (by rw [hg, hr, hl]; decide)).mono ?_
  rintro e w' ⟨k', rfl, hm, hh, hrb, him, f⟩
  rw [hg] at hm hh hrb f ⊢
  rw [List.set_set] at him
  have hc : (k.m.hear k.h.st.hs now (readL (bytesOf s))) = (⟨M.r, M.s, M.z⟩, (M.r.take now (readL (bytesOf s))).2.1) := by
    unfold Km.hear
    rw [h.m, if_neg he, take_kept he]
  rw [hc] at hm
  rw [h.rb] at f hrb
  refine ⟨k', _, rfl, ?_, ⟨him, hm, hh.trans h.h, hrb⟩, f⟩
  rw [hc]
  simpa using he
/-- behind a telegram of just now nothing more is taken now -/
theorem stale {r : R} (hl : r.last = 100) (t : T) : (r.take 100 t).2.1 ≠ 0 := by
  by_cases he : t.e = 0
  · have k : r.refuse 100 t.p t.s ≠ 0 := by
      unfold R.refuse
      rw [hl]
      by_cases h1 : t.p ≠ r.peer
      · rw [if_pos h1]; decide
      · rw [if_neg h1]
        by_cases h2 : 100 < t.s
        · rw [if_pos h2]; decide
        · rw [if_neg h2]
          by_cases h3 : r.age < 100 - t.s
          · rw [if_pos h3]; decide
          · rw [if_neg h3, if_pos (by omega)]; decide
    rw [take_no he k]
    exact k
  · rw [take_bad he]
    exact he
/-- how things stand behind the first telegram: w4 is the world ahead of the image -/
structure Sit (w4 : World) (a hb ob : Nat) (A : Array Value) (x0 x1 x2 x3 : Te.L3) (b : Nat) (ks : List Kc) (j : Nat) (hj : j < ks.length) (C : Te.Cf) (M : Km) (w : World) : Prop where
  st : ∃ k, Stp w b ks j hj C M k
  ag : Ag w a hb A #[.slice x0.A x0.l.length x0.c, .slice x1.A x1.l.length x1.c, .slice x2.A x2.l.length x2.c, .slice x3.A x3.l.length x3.c] ⟨x0, x1, x2, x3⟩
  io : Is w ob 3 #[.int .i64 (j : Int)]
  fr : Fr (fun _ => False) w4 w
theorem Sit.fr0 {w4 w w1 : World} {a hb ob : Nat} {A : Array Value} {x0 x1 x2 x3 : Te.L3} {b : Nat} {ks : List Kc} {j : Nat} {hj : j < ks.length} {C : Te.Cf} {M : Km} (h : Sit w4 a hb ob A x0 x1 x2 x3 b ks j hj C M w) (f : Fr (fun _ => False) w w1) : Sit w4 a hb ob A x0 x1 x2 x3 b ks j hj C M w1 := by
  obtain ⟨⟨k, s⟩, g, i, r⟩ := h
  exact ⟨⟨k, s.fr0 f⟩, g.fr0 f, i.fr f id, fr_nil r f⟩
theorem sit_tell {w4 w : World} {a hb ob : Nat} {A : Array Value} {x0 x1 x2 x3 : Te.L3} {b : Nat} {ks : List Kc} {j : Nat} {hj : j < ks.length} {C : Te.Cf} {M : Km} (h : Sit w4 a hb ob A x0 x1 x2 x3 b ks j hj C M w) (l0 : 0 < x0.l.length) (l0' : x0.l.length ≤ 200) (l1 : x1.l.length ≤ 200) (l2 : x2.l.length ≤ 200) (l3 : x3.l.length ≤ 200) (n s occ : Int) :
    Calls Try.prog 27 #[.int .i64 n, .int .i64 s, .int .i64 occ, .pointer (some ⟨hb, 0, none⟩), .pointer (some ⟨ob, 0, none⟩)] w fun e w' => ∃ t : ByteArray, e = .returned (.string t) ∧ Sit w4 a hb ob A x0 x1 x2 x3 b ks j hj C M w' :=
  (tell_any h.ag.2.1 ((h.io.cell 0).trans rfl) l0 l0' l1 l2 l3 n s occ).mono fun _ _ ⟨he, f⟩ => ⟨_, he, h.fr0 f⟩
theorem sit_take {w4 w : World} {a hb ob : Nat} {A : Array Value} {x0 x1 x2 x3 : Te.L3} {b : Nat} {ks : List Kc} {j : Nat} {hj : j < ks.length} {C : Te.Cf} {M : Km} (h : Sit w4 a hb ob A x0 x1 x2 x3 b ks j hj C M w) (h4 : ks.length = 4) (hag : Ag w4 a hb A #[.slice x0.A x0.l.length x0.c, .slice x1.A x1.l.length x1.c, .slice x2.A x2.l.length x2.c, .slice x3.A x3.l.length x3.c] ⟨x0, x1, x2, x3⟩) (hob : ob < w4.heap.size) (hF : ∀ q, (q = b ∨ q = ks[j].rb) → w4.heap.size ≤ q) (hl : M.r.lost = 0) (ht : M.r.last = 100) (s : ByteArray) :
    Calls Try.prog 15 #[.pointer (some ⟨b, 0, none⟩), .int .i64 100, .int .i64 (j : Int), .string s] w fun e w' => ∃ y : Int, e = .returned (.int .i64 y) ∧ (y == 0) = false ∧ Sit w4 a hb ob A x0 x1 x2 x3 b ks j hj C M w' := by
  obtain ⟨⟨k, st⟩, g, i, r⟩ := h
  refine (stp_take st h4 100 s (by decide) hl (stale ht _)).mono ?_
  rintro e w' ⟨k', y, he, hy, st', f⟩
  exact ⟨y, he, hy, ⟨k', st'⟩, Ag.fr2 hag g f hF, i.fr f fun hq => by have := hF _ hq; omega, r.trans f fun q hq hh => by have := hF _ hh; omega⟩
theorem tell_bytes {h : Te.Hs} {occ : Int} (h0 : 0 ≤ occ) (h1 : occ ≤ 1) : (Te.stL h (tellS h occ)).1 = (tellS h occ).bytes := by
  unfold Te.stL
  rw [if_pos (tell_ok h h0 h1)]
theorem l_call2 {P : Program} {ops : Array Oper} {a : Act} {w : World} {φ : Value → World → Prop} {d : Option Tmp} {f : FuncId} {x y : Operand} {ats : Array TypeId} {ty : TypeId} {pos : String} {af : Array Edge} {v u : Value} (he : ∀ args w, (callFunc f args).run P w = .ok (.enter f args) w) (hx : a.eval x = v) (hy : a.eval y = u) (k : Calls P f #[v, u] w fun e w'' => ∃ r, e = .returned r ∧ φ r w'') : Oper.gives P ops ⟨d, .call { callee := .value (.func f), args := #[x, y], argTypes := ats }, ty, pos, af, none⟩ a w φ := by
  refine l_enter rfl (f := f) (args := #[v, u]) (w' := w) ?_ k
  rw [execOp_call_go]
  simp only [List.map_toArray, List.map_cons, List.map_nil, hx, hy]
  exact he _ _
theorem enters_view (args : Array Value) (w : World) : (callFunc 21 args).run Try.prog w = .ok (.enter 21 args) w := by
  have h := Try.func21
  go_simp
def spView (V : List Lk) (n n2 n3 : Nat) : Sp := ⟨fun v w => ∃ g0 g1 g2 g3, v = .agg #[.slice (some ⟨g0, 0, none⟩) n n, .slice (some ⟨g1, 0, none⟩) n n, .slice (some ⟨g2, 0, none⟩) n2 n2, .slice (some ⟨g3, 0, none⟩) n3 n3] ∧ Is w g0 59 (cellsL V).toArray, fun _ _ _ ⟨g0, g1, g2, g3, e, i⟩ f => ⟨g0, g1, g2, g3, e, i.fr f id⟩⟩
def spOcc (V : List Lk) (n : Nat) : Sp := ⟨fun v w => ∃ g0, v = .slice (some ⟨g0, 0, none⟩) n n ∧ Is w g0 59 (cellsL V).toArray, fun _ _ _ ⟨g0, e, i⟩ f => ⟨g0, e, i.fr f id⟩⟩
def spLook (V : List Lk) (m : Nat) : Sp := ⟨fun v w => ∃ g0, v = .pointer (some ⟨g0, m * 3, none⟩) ∧ Is w g0 59 (cellsL V).toArray, fun _ _ _ ⟨g0, e, i⟩ f => ⟨g0, e, i.fr f id⟩⟩
set_option maxHeartbeats 8000000 in
set_option maxRecDepth 100000 in
theorem older_walk {C : Te.Cf} {w : World} (hC : C.Ok w) (hs : Small C) (oc ago : Int) :
    Calls Try.prog 7 #[C.val, .int .i64 oc, .int .i64 ago] w fun e w' => e = .returned (.bool true) ∧ Fr (fun _ => False) w w' := by
  have KL := fun W => lives_any W
  obtain ⟨j, hj, hj4⟩ := umod oc 4 (by decide) (by decide)
  obtain ⟨l, hl, hl5⟩ := umod ago 5 (by decide) (by decide)
  simp only [show ((4 : Nat) : Int) = 4 from rfl] at hj
  simp only [show ((5 : Nat) : Int) = 5 from rfl] at hl
  unfold Te.Cf.val Te.Cf.cells at *
  have ib := (Is.new w 30 C.arr).alloc (.cells #[.int .i64 oc] 3)
  have io := Is.new (w.alloc (.cells C.arr 30)) 3 #[.int .i64 oc]
  have fb := ((Fr.refl (fun _ => False) w).alloc (.cells C.arr 30)).alloc (.cells #[.int .i64 oc] 3)
  simp only [World.size_alloc] at io
  unfold Te.Cf.arr at *
  go_enter Try.func7, Try.ntmps7
  go_wp2_with fail
  generalize (w.alloc _).alloc _ = w0 at *
  have HB := Lib.hid ib
  have HO := Lib.hid io
  have F0 := Lib.hid fb
  clear ib fb io
  refine (KL _).mono ?_
  rintro e w1 ⟨rfl, f1⟩
  have ib1 := HB.out.fr f1 id
  have io1 := HO.out.fr f1 id
  have F1 := Lib.hid (fr_nil F0.out f1)
  have c0 : w1.cell? ⟨w.heap.size + 1, 0, none⟩ = some (.int .i64 oc) := (io1.cell 0).trans rfl
  have z0 := io1.frozen 0
  have io2 := io1.set 0 (.int .i64 (j : Int))
  have ib2 := ib1.far (p := ⟨w.heap.size + 1, 0, none⟩) (show w.heap.size ≠ w.heap.size + 1 by omega) (.int .i64 (j : Int))
  have F2 := Lib.hid (F1.out.setCell (p := ⟨w.heap.size + 1, 0, none⟩) (.inr (Nat.le_succ _)) (.int .i64 (j : Int)))
  have HB2 := Lib.hid ib2
  have HO2 : Hid (Is (w1.setCell ⟨w.heap.size + 1, 0, none⟩ (.int .i64 (j : Int))) (w.heap.size + 1) 3 #[.int .i64 (j : Int)]) := Lib.hid (by simpa using io2)
  clear KL f1 HB HO F0 F1 ib1 io1 io2 ib2
  go_upto_region 4 with fail
  simp only [hj]
  clear hj c0 z0
  generalize w1.setCell ⟨w.heap.size + 1, 0, none⟩ (.int .i64 (j : Int)) = w2 at *
  have s2 := Te.nine_cells HB2.out
  have c2 : w2.cell? ⟨w.heap.size + 1, 0, none⟩ = some (.int .i64 (j : Int)) := (HO2.out.cell 0).trans rfl
  have HC2 := Lib.hid (hC.fr F2.out)
  go_wp2_with fail
  simp only [hl]
  clear hl
  refine ((Te.refshape_any HC2.out (j : Int)).mono fun e w' k => (Te.ex_sta k)).mono ?_
  rintro e w3 ⟨x0, x1, x2, x3, rfl, hst, hok, _, f3⟩
  have HST := Lib.hid hst
  have HL1 : Hid (x1.l.length ≤ x0.l.length) := Lib.hid (by
    have e0 : x0.l = _ := congrArg Te.St.occ hst
    have e1 : x1.l = _ := congrArg Te.St.pos hst
    rw [e0, e1]
    exact sub_len _ _)
  have fa := (f3.alloc (.cells #[.slice x0.A x0.l.length x0.c, .slice x1.A x1.l.length x1.c, .slice x2.A x2.l.length x2.c, .slice x3.A x3.l.length x3.c] 33))
  have HX : Hid (Ag (w3.alloc (.cells #[.slice x0.A x0.l.length x0.c, .slice x1.A x1.l.length x1.c, .slice x2.A x2.l.length x2.c, .slice x3.A x3.l.length x3.c] 33)) w.heap.size w3.heap.size _ _ ⟨x0, x1, x2, x3⟩) := Lib.hid ⟨HB2.out.fr fa id, Is.new _ _ _, hok.fr ((Fr.refl _ w3).alloc _)⟩
  have HO3 := Lib.hid (HO2.out.fr fa id)
  have F3 := Lib.hid (fr_nil F2.out fa)
  have s3 := Te.nine_cells HX.out.1
  have h3 := Te.four_cells HX.out.2.1
  clear hst hok f3 fa s2 c2 HB2 HO2 F2 HC2
  unfold Te.Sta.val
  simp only
  by_cases q0 : x0.l.length = 0
  · have d0 : ((x0.l.length : Int) == 0) = true := by rw [beq_iff_eq]; omega
    clear q0
    go_wp2_with fail
    go_ret
    exact ⟨rfl, F3.out⟩
  have d0 : ((x0.l.length : Int) == 0) = false := by rw [beq_eq_false_iff_ne]; omega
  by_cases q1 : (200 : Int) < (x0.l.length : Int)
  · have d1 : decide ((200 : Int) < (x0.l.length : Int)) = true := decide_eq_true q1
    go_wp2_with fail
    go_ret
    exact ⟨rfl, F3.out⟩
  have d1 : decide ((200 : Int) < (x0.l.length : Int)) = false := decide_eq_false q1
  by_cases q2 : (200 : Int) < (x3.l.length : Int)
  · have d2 : decide ((200 : Int) < (x3.l.length : Int)) = true := decide_eq_true q2
    go_wp2_with fail
    go_ret
    exact ⟨rfl, F3.out⟩
  have d2 : decide ((200 : Int) < (x3.l.length : Int)) = false := decide_eq_false q2
  by_cases q3 : (200 : Int) < (x2.l.length : Int)
  · have d3 : decide ((200 : Int) < (x2.l.length : Int)) = true := decide_eq_true q3
    go_wp2_with fail
    go_ret
    exact ⟨rfl, F3.out⟩
  have d3 : decide ((200 : Int) < (x2.l.length : Int)) = false := decide_eq_false q3
  by_cases q4 : C.t.age < 1
  · have d4 : decide (C.t.age < 1) = true := decide_eq_true q4
    go_wp2_with fail
    go_ret
    exact ⟨rfl, F3.out⟩
  have d4 : decide (C.t.age < 1) = false := decide_eq_false q4
  by_cases q5 : 8 < C.t.age
  · have d5 : decide (8 < C.t.age) = true := decide_eq_true q5
    go_wp2_with fail
    go_ret
    exact ⟨rfl, F3.out⟩
  have d5 : decide (8 < C.t.age) = false := decide_eq_false q5
  have HC3 := Lib.hid (hC.fr F3.out)
  have KN := new_any HC3.out
  unfold Te.Cf.val Te.Cf.cells at KN
  have hq0 : 0 < x0.l.length := by omega
  have hl0 : x0.l.length ≤ 200 := by omega
  have hl1 : x1.l.length ≤ 200 := by have := HL1.out; omega
  have hl2 : x2.l.length ≤ 200 := by omega
  have hl3 : x3.l.length ≤ 200 := by omega
  clear h3
  go_wp2_with fail
  generalize w3.alloc _ = w4 at *
  refine KN.mono ?_
  rintro e w5 ⟨b, ks, rfl, him, h4, hm, hfo, _, f5⟩
  have hjk : j < ks.length := by omega
  have HFT := Lib.hid (new_fit hm)
  have HLO : Hid (∀ i (h : i < ks.length), ks[i].r.lost = 0) := Lib.hid fun i h => by
    have e : ks[i].r = R.new (i : Int) C.t.age := congrArg Km.r (hm i h).1
    rw [e]
    rfl
  have hmr : ks[j].m = ⟨R.new (j : Int) C.t.age, Te.nilSta.st, -1⟩ := (hm j hjk).1
  have hmh : ks[j].h.st = Te.shL C (j : Int) := (hm j hjk).2
  have hr0 : ks[j].r = R.new (j : Int) C.t.age := congrArg Km.r hmr
  have HMH := Lib.hid hmh
  have hsx : (Te.shL C (j : Int)).hs = (Te.Sta.mk x0 x1 x2 x3).st.hs := by rw [HST.out]
  have hok1 := tell_ok (Te.Sta.mk x0 x1 x2 x3).st.hs (occ := 1) (by decide) (by decide)
  have hbig : 1 + (Te.Sta.mk x0 x1 x2 x3).st.hs.s + (Te.Sta.mk x0 x1 x2 x3).st.hs.p + (Te.Sta.mk x0 x1 x2 x3).st.hs.c + (Te.Sta.mk x0 x1 x2 x3).st.hs.g ≤ 1000 := by
    show 1 + x0.l.length + x1.l.length + x2.l.length + x3.l.length ≤ 1000
    omega
  have hrd := told_read hok1 hbig hj4 (n := 1) (s := 100) (by decide) (by decide) (by decide) (by decide)
  have hhe := hear_new hok1 j (age := C.t.age) (n := 1) (by omega) (s := Te.nilSta.st)
  have HX5 := Lib.hid (HX.out.fr0 f5)
  have HO5 := Lib.hid (HO3.out.fr f5 id)
  have KC := fun (W : World) (f : Fr (fun _ => False) w5 W) (n s occ : Int) => tell_any (HX5.out.2.1.fr f id) (((HO5.out.fr f id).cell 0).trans rfl : W.cell? ⟨w.heap.size + 1, 0, none⟩ = some (.int .i64 (j : Int))) hq0 hl0 hl1 hl2 hl3 n s occ
  have K1 := fun (W : World) (f : Fr (fun _ => False) w5 W) => KC W f 1 100 1
  simp only [tell_bytes (show (0 : Int) ≤ 1 by decide) (show (1 : Int) ≤ 1 by decide)] at K1
  generalize (makeL (j : Int) 1 100 (tellS (Te.Sta.mk x0 x1 x2 x3).st.hs 1).bytes).1 = tl at *
  have KT := fun (W : World) (f : Fr (fun _ => False) w5 W) => take_in (him.fr0 f) h4 hjk 100 ⟨tl.toArray⟩ (by decide) (by rw [hr0]; show (0 : Int) ≤ 0; decide) (by rw [hr0]; show (0 : Int) ≤ 4611686018427387904; decide)
  rw [show bytesOf ⟨tl.toArray⟩ = tl from rfl, hrd, hmr, hmh, hsx, hhe] at KT
  simp only at KT
  have c5 : w5.drew.cell? ⟨w.heap.size + 1, 0, none⟩ = some (.int .i64 (j : Int)) := ((HO5.out.drew).cell 0).trans rfl
  have HFO : Hid (∀ q, Foot b ks q → w4.heap.size ≤ q) := Lib.hid hfo
  have HFS : Hid (∀ q, (q = b ∨ q = ks[j].rb) → w4.heap.size ≤ q) := Lib.hid fun q hq => hfo q (by
    rcases hq with hh | hh
    · exact .inl hh
    · exact .inr ⟨_, List.getElem_mem hjk, hh⟩)
  have HOLT : Hid (w.heap.size + 1 < w4.heap.size) := Lib.hid HO3.out.lt
  have F5 := Lib.hid (fr_nil F3.out f5)
  have HX4 := HX
  have HF45 := Lib.hid f5
  have HF4w := Lib.hid (Fr.refl (fun _ => False) w4)
  clear HX HO3 KN hm hfo him hmr hmh hr0 hsx hok1 hbig hrd hhe f5 s3 d0 d1 d2 d3 d4 d5 HC3
  go_wp2_with fail
  go_region_held3 (fun Wx => Wx.cell? ⟨w.heap.size + 1, 0, none⟩ = some (.int .i64 (j : Int))) (first | with_reducible exact c5 | with_reducible exact c6 | with_reducible exact c7) (first | (go_at_call 15; refine (KT _ (fr_nil (Fr.refl _ w5).drew ft)).mono ?_; rintro e w7 ⟨k, rfl, hkm, hkh, hkr, him7, f7⟩; have HS7 : Hid (Stp w7 b ks j hjk C _ k) := Lib.hid ⟨him7, hkm, hkh, hkr⟩; have HF7 : Hid (Fr (fun q => q = b ∨ q = ks[j].rb) w5 w7) := Lib.hid (((fr_nil (Fr.refl _ w5).drew ft).mono fun _ _ h => h.elim).trans f7 fun _ _ h => h); have c7 : w7.cell? ⟨w.heap.size + 1, 0, none⟩ = some (.int .i64 (j : Int)) := (f7.cell (p := ⟨w.heap.size + 1, 0, none⟩) (World.block_lt_of_cell? _ _ c6) (fun hq => by have h1 := HFS.out _ hq; have h2 := HOLT.out; simp only at h1; omega)).trans c6; clear hkm hkh hkr him7 f7) | (go_at_call 27; refine (K1 _ (Fr.refl _ w5).drew).mono ?_; rintro e w6 ⟨rfl, ft⟩; have c6 : w6.cell? ⟨w.heap.size + 1, 0, none⟩ = some (.int .i64 (j : Int)) := (ft.cell (p := ⟨w.heap.size + 1, 0, none⟩) (World.block_lt_of_cell? _ _ c5) id).trans c5))
  rename_i hHeld
  clear hHeld
  obtain ⟨M, HSM, HML, HMT, hMz, hMs⟩ : ∃ M : Km, Stp w7 b ks j hjk C M k ∧ M.r.lost = 0 ∧ M.r.last = 100 ∧ M.z = 100 ∧ M.s = tellS (Te.Sta.mk x0 x1 x2 x3).st.hs 1 := ⟨_, HS7.out, rfl, rfl, rfl, rfl⟩
  have S7 : Sit w4 w.heap.size w3.heap.size (w.heap.size + 1) _ x0 x1 x2 x3 b ks j hjk C M w7 := ⟨⟨k, HSM⟩, Ag.fr2 HX4.out HX5.out HF7.out HFS.out, HO5.out.fr HF7.out (fun hq => by have h1 := HFS.out _ hq; have h2 := HOLT.out; omega), HF45.out.trans HF7.out fun q hq hh => by have h1 := HFS.out _ hh; omega⟩
  have S0 := S7.fr0 (Fr.refl _ w7).drew
  have d0 : w7.drew.cell? ⟨w.heap.size + 1, 0, none⟩ = some (.int .i64 (j : Int)) := (S0.io.cell 0).trans rfl
  have HMZ := Lib.hid hMz
  have HMS := Lib.hid hMs
  clear c5 c6 c7 hMz hMs HS7 HSM S7 ft KT K1 KC
  go_wp2_with fail
  go_region_held3 (fun Wx => Wx.cell? ⟨w.heap.size + 1, 0, none⟩ = some (.int .i64 (j : Int))) (first | with_reducible exact d0 | with_reducible exact d1 | with_reducible exact d2 | with_reducible exact d3 | with_reducible exact d4 | with_reducible exact d5) (first | (go_at_call 15; refine (sit_take S4 h4 HX4.out HOLT.out HFS.out HML HMT _).mono ?_; rintro e u5 ⟨y5, rfl, hy5, S5⟩; have d5 : u5.cell? ⟨w.heap.size + 1, 0, none⟩ = some (.int .i64 (j : Int)) := (S5.io.cell 0).trans rfl) | (go_at_call 15; refine (sit_take S3 h4 HX4.out HOLT.out HFS.out HML HMT _).mono ?_; rintro e u4 ⟨y4, rfl, hy4, S4⟩; have d4 : u4.cell? ⟨w.heap.size + 1, 0, none⟩ = some (.int .i64 (j : Int)) := (S4.io.cell 0).trans rfl) | (go_at_call 27; refine (sit_tell S2 hq0 hl0 hl1 hl2 hl3 _ _ _).mono ?_; rintro e u3 ⟨t3, rfl, S3⟩; have d3 : u3.cell? ⟨w.heap.size + 1, 0, none⟩ = some (.int .i64 (j : Int)) := (S3.io.cell 0).trans rfl) | (go_at_call 15; refine (sit_take S1 h4 HX4.out HOLT.out HFS.out HML HMT _).mono ?_; rintro e u2 ⟨y2, rfl, hy2, S2⟩; have d2 : u2.cell? ⟨w.heap.size + 1, 0, none⟩ = some (.int .i64 (j : Int)) := (S2.io.cell 0).trans rfl) | (go_at_call 27; refine (sit_tell S0 hq0 hl0 hl1 hl2 hl3 _ _ _).mono ?_; rintro e u1 ⟨t1, rfl, S1⟩; have d1 : u1.cell? ⟨w.heap.size + 1, 0, none⟩ = some (.int .i64 (j : Int)) := (S1.io.cell 0).trans rfl))
  rename_i hHeld2
  clear hHeld2 d0 d1 d2 d3 d4 d5 hy2 hy4 hy5 S0 S1 S2 S3 S4
  go_upto_region 14 with fail
  obtain ⟨⟨k5, st5⟩, ag5, _, fr5⟩ := S5
  have hg5 : (ks.set j k5)[j]'(by rw [List.length_set]; exact hjk) = k5 := List.getElem_set_self _
  have hl5' : (ks.set j k5).length = 4 := by rw [List.length_set]; exact h4
  have hj5 : j < (ks.set j k5).length := by omega
  have hkz : k5.z = 100 := (congrArg Km.z st5.m).trans HMZ.out
  have hks : k5.s.st = tellS (Te.Sta.mk x0 x1 x2 x3).st.hs 1 := (congrArg Km.s st5.m).trans HMS.out
  have hkr : k5.r.lost = 0 := (congrArg (fun m => m.r.lost) st5.m).trans HML
  have hkst : k5.h.st = (Te.Sta.mk x0 x1 x2 x3).st := by rw [st5.h, HMH.out, HST.out]
  have hft5 : ∀ i (hi : i < (ks.set j k5).length), Fit C i (ks.set j k5)[i] := fun i hi => by
    by_cases e : j = i
    · subst e
      rw [hg5]
      refine ⟨by rw [hkst, HST.out], by omega, fun _ => ?_⟩
      rw [hks, hkst]
      unfold tellS zeros Te.St.hs
      simp only [List.length_replicate, List.length_set]
    · rw [List.getElem_set_ne e]
      exact HFT.out i (by rw [List.length_set] at hi; exact hi)
  have hx0 : k5.h.occ.l = x0.l := congrArg Te.St.occ hkst
  have hidx : x0.l = Te.idx (Te.inB (j : Int)) 0 C.l := congrArg Te.St.occ HST.out
  obtain ⟨m, hm, hme, _⟩ := idx_elem hidx hq0
  have hsocc : k5.s.occ.l = (List.replicate x0.l.length (0 : Int)).set 0 1 := congrArg Te.St.occ hks
  have hfr5 : k5.m.fresh 100 C.t.age = true := by
    unfold Km.fresh
    rw [show k5.m.z = k5.z from rfl, hkz]
    simp
    omega
  have hv : (vOcc C 100 (ks.set j k5))[m]? = some ⟨1, 100, true⟩ := by
    rw [occ_told hft5 100 hm hj5 (by rw [hg5]; exact hfr5) (p := 0) (by rw [hg5, hx0]; exact hq0) (by rw [hg5, hsocc]; simp; exact hq0) (by simp only [hg5, hx0]; exact hme)]
    simp only [hg5, hsocc, hkz]
    simp
  have hvl : (vOcc C 100 (ks.set j k5)).length = C.l.length := by rw [vOcc, viewK_length, worstL_length]
  have KV := fun (W : World) (f : Fr (fun _ => False) u5 W) => view_any (st5.im.fr0 f) hl5' hs hft5 100 (by decide)
  have hlost : lostL (ks.set j k5) = 0 := by
    have key : ∀ l : List Kc, (∀ k ∈ l, k.r.lost = 0) → lostL l = 0 := fun l => by
      induction l with
      | nil => intro _; rfl
      | cons k l ih =>
        intro h
        have e : lostL (k :: l) = k.r.lost + lostL l := by simp [lostL]
        rw [e, h k (by simp), ih fun x hx => h x (by simp [hx])]
        rfl
    refine key _ fun k hk => ?_
    rcases List.mem_or_eq_of_mem_set hk with hk | rfl
    · obtain ⟨i, hi, rfl⟩ := List.getElem_of_mem hk
      exact HLO.out i hi
    · exact hkr
  have KLO := fun (W : World) (f : Fr (fun _ => False) u5 W) => lost_any (st5.im.fr0 f) hl5' (fun k hk => by
    rcases List.mem_or_eq_of_mem_set hk with hk | rfl
    · obtain ⟨i, hi, rfl⟩ := List.getElem_of_mem hk
      rw [HLO.out i hi]
      decide
    · rw [hkr]
      decide)
  rw [hlost] at KLO
  generalize vOcc C 100 (ks.set j k5) = V at *
  have hmv : m < V.length := by omega
  rw [List.getElem?_eq_getElem hmv, Option.some.injEq] at hv
  have hm9 : (m : Int) < (C.l.length : Int) := by omega
  have HV := Lib.hid hv
  have HF5 := Lib.hid (fr_nil (fr_nil F3.out HF4w.out) fr5)
  obtain ⟨g9, o9, hA9, _, hrd9⟩ := ag5.2.2.occ.rd (by rw [List.length_map]; exact hq0)
  have hc9 : u5.cell? ⟨g9, o9, none⟩ = some (.int .i64 (m : Int)) := by
    have e := hrd9 0 (.int .i64 (m : Int)) (by rw [List.getElem?_map, List.getElem?_eq_getElem hq0, hme]; rfl)
    simpa using e
  have hib := ag5.2.1
  simp only at hA9
  rw [hA9] at hib
  have HIB5 := Lib.hid hib
  have HC9 := Lib.hid hc9
  have hq9 : (0 : Int) < (x0.l.length : Int) := by omega
  obtain ⟨n0, hn0⟩ : ∃ n0, n0 = x0.l.length := ⟨_, rfl⟩
  rw [← hn0] at hq9
  rw [← hn0] at HIB5
  clear hn0 hidx hx0 hme hsocc hrd9 hib hc9 hkst hft5
  refine region_late 10 [89, 90, 91, 92, 93, 94, 95, 96, 97, 10] [(89, .val (.pointer (some ⟨b, 0, none⟩))), (90, spView V C.l.length C.cr.length C.sg.length), (91, spOcc V C.l.length), (92, .val (.pointer (some ⟨w3.heap.size, 0, none⟩))), (93, .val (.slice (some ⟨g9, o9, none⟩) n0 x0.c)), (94, .val (.pointer (some ⟨g9, o9, none⟩))), (95, .val (.int .i64 (m : Nat))), (96, spLook V m), (97, .val (.agg #[.int .i64 1, .int .i64 100, .bool true])), (10, .box u5.drew.heap.size 59 #[.int .i64 0, .int .i64 0, .bool false])] (by kernel_rfl) (by kernel_rfl) (by kernel_rfl) (by decide) (by kernel_rfl) (by kernel_rfl) (by kernel_rfl) ?_ ?_
  · intro i o ho him
    have hcase : i = 0 ∨ i = 1 ∨ i = 2 ∨ i = 3 ∨ i = 4 ∨ i = 5 ∨ i = 6 ∨ i = 7 ∨ i = 8 ∨ i = 9 := by omega
    clear him
    rcases hcase with rfl | rfl | rfl | rfl | rfl | rfl | rfl | rfl | rfl | rfl <;> (injection ho with ho; subst ho; intro a' w' hf hl)
    · have e1 : a'.eval (.tmp 9) = .pointer (some ⟨b, 0, none⟩) := hl 9 (by decide)
      refine l_of rfl (v := .pointer (some ⟨b, 0, none⟩)) (w' := w') (by clear hl; revert e1; generalize a'.eval = ev; intro e1; go_simp) (putL' (Fr.refl _ _) rfl)
    · have e1 : a'.eval (.tmp 89) = .pointer (some ⟨b, 0, none⟩) := hl 89 (by decide)
      refine l_call2 enters_view e1 rfl ((KV w' (fr_nil (Fr.refl _ u5).drew hf)).mono fun e w'' ⟨vb, g0, g1, g2, g3, he, hvw, _, f⟩ => ⟨_, he, putL' f ⟨g0, g1, g2, g3, rfl, hvw.i0⟩⟩)
    · obtain ⟨g0, g1, g2, g3, e1, i1⟩ := (hl 90 (by decide) : (spView V C.l.length C.cr.length C.sg.length).p _ _)
      refine l_of rfl (v := .slice (some ⟨g0, 0, none⟩) C.l.length C.l.length) (w' := w') (by clear hl; revert e1; generalize a'.eval = ev; intro e1; go_simp; rfl) (putL' (Fr.refl _ _) ⟨g0, rfl, i1⟩)
    · have e1 : a'.eval (.tmp 7) = .pointer (some ⟨w3.heap.size, 0, none⟩) := hl 7 (by decide)
      refine l_of rfl (v := .pointer (some ⟨w3.heap.size, 0, none⟩)) (w' := w') (by clear hl; revert e1; generalize a'.eval = ev; intro e1; go_simp) (putL' (Fr.refl _ _) rfl)
    · have e1 : a'.eval (.tmp 92) = .pointer (some ⟨w3.heap.size, 0, none⟩) := hl 92 (by decide)
      have c := (Te.four_cells (Is.fr (S := fun _ => False) (Is.drew HIB5.out) hf id)).1
      refine l_of rfl (v := .slice (some ⟨g9, o9, none⟩) n0 x0.c) (w' := w') (by clear hl; revert e1; generalize a'.eval = ev; intro e1; go_simp) (putL' (Fr.refl _ _) rfl)
    · have e1 : a'.eval (.tmp 93) = .slice (some ⟨g9, o9, none⟩) n0 x0.c := hl 93 (by decide)
      have e2 : a'.eval (.const (.int .i64 0)) = .int .i64 0 := rfl
      refine l_of rfl (v := .pointer (some ⟨g9, o9, none⟩)) (w' := w') (by clear hl; revert e1 e2; generalize a'.eval = ev; intro e1 e2; go_simp; intro h9; exact absurd h9 (by omega)) (putL' (Fr.refl _ _) rfl)
    · have e1 : a'.eval (.tmp 94) = .pointer (some ⟨g9, o9, none⟩) := hl 94 (by decide)
      have c := (hf.cell (p := ⟨g9, o9, none⟩) (World.block_lt_of_cell? _ _ HC9.out) id).trans HC9.out
      refine l_of rfl (v := .int .i64 (m : Nat)) (w' := w') (by clear hl; revert e1; generalize a'.eval = ev; intro e1; go_simp) (putL' (Fr.refl _ _) rfl)
    · obtain ⟨g0, e1, i1⟩ := (hl 91 (by decide) : (spOcc V C.l.length).p _ _)
      have e2 : a'.eval (.tmp 95) = .int .i64 (m : Nat) := hl 95 (by decide)
      refine l_of rfl (v := .pointer (some ⟨g0, m * 3, none⟩)) (w' := w') (by clear hl; revert e1 e2; generalize a'.eval = ev; intro e1 e2; go_simp) (putL' (Fr.refl _ _) ⟨g0, rfl, i1⟩)
    · obtain ⟨g0, e1, i1⟩ := (hl 96 (by decide) : (spLook V m).p _ _)
      have lc := look_cells i1 hmv
      rw [HV.out] at lc
      refine l_of rfl (v := .agg #[.int .i64 1, .int .i64 100, .bool true]) (w' := w') (by clear hl; revert e1; generalize a'.eval = ev; intro e1; go_simp) (putL' (Fr.refl _ _) rfl)
    · refine l_of rfl (v := .pointer (some ⟨w'.heap.size, 0, none⟩)) (w' := w'.alloc (.cells #[.int .i64 0, .int .i64 0, .bool false] 59)) (by clear hl; generalize a'.eval = ev; go_simp) (putL' ((Fr.refl _ _).alloc _) ⟨_, rfl, Is.new _ _ _, hf.size⟩)
  · intro val w' hf hT
    obtain ⟨lb, e10, ibx, hlb⟩ := (hT 10 (by decide) : (Sp.box _ _ _).p _ _)
    have e97 : val 97 = .agg #[.int .i64 1, .int .i64 100, .bool true] := hT 97 (by decide)
    simp only [laidL, List.foldl_cons, List.foldl_nil, e10, e97]
    clear hT
    generalize val 89 = v89; generalize val 90 = v90; generalize val 91 = v91; generalize val 92 = v92; generalize val 93 = v93; generalize val 94 = v94; generalize val 95 = v95; generalize val 96 = v96
    simp only [List.setIfInBounds_toArray, List.set_cons_succ, List.set_cons_zero]
    have m0 : w'.cell? ⟨lb, 0, none⟩ = some (.int .i64 0) := (ibx.cell 0).trans rfl
    have m1 : w'.cell? ⟨lb, 1, none⟩ = some (.int .i64 0) := (ibx.cell 1).trans rfl
    have m2 : w'.cell? ⟨lb, 2, none⟩ = some (.bool false) := (ibx.cell 2).trans rfl
    have z0 := ibx.frozen 0
    have z1 := ibx.frozen 1
    have z2 := ibx.frozen 2
    have ist := ((ibx.set 0 (.int .i64 1)).set 1 (.int .i64 100)).set 2 (.bool true)
    have fst := (((Fr.refl (fun q => q = lb) w').setCell (p := ⟨lb, 0, none⟩) (.inl rfl) (.int .i64 1)).setCell (p := ⟨lb, 1, none⟩) (.inl rfl) (.int .i64 100)).setCell (p := ⟨lb, 2, none⟩) (.inl rfl) (.bool true)
    refine tail1 rfl rfl rfl (w' := ((w'.setCell ⟨lb, 0, none⟩ (.int .i64 1)).setCell ⟨lb, 1, none⟩ (.int .i64 100)).setCell ⟨lb, 2, none⟩ (.bool true)) (by go_simp) ?_
    dsimp only [Exit.then]
    clear m0 m1 m2 z0 z1 z2
    generalize ((w'.setCell ⟨lb, 0, none⟩ (.int .i64 1)).setCell ⟨lb, 1, none⟩ (.int .i64 100)).setCell ⟨lb, 2, none⟩ (.bool true) = W at *
    have f9 : Fr (fun _ => False) u5 W := (fr_nil (Fr.refl _ u5).drew hf).trans fst fun q hq e => by
      have h1 : u5.drew.heap.size = u5.heap.size := rfl
      omega
    have m0 : W.cell? ⟨lb, 0, none⟩ = some (.int .i64 1) := (ist.cell 0).trans rfl
    have m1 : W.cell? ⟨lb, 1, none⟩ = some (.int .i64 100) := (ist.cell 1).trans rfl
    have m2 : W.cell? ⟨lb, 2, none⟩ = some (.bool true) := (ist.cell 2).trans rfl
    have KL9 := KLO W f9
    have F9 := Lib.hid f9
    clear KV KLO ist fst ibx f9
    go_wp2_with (go_at_call 19; refine KL9.mono ?_; rintro e w9 ⟨rfl, f10⟩; clear KL9)
    go_ret
    exact ⟨rfl, fr_nil (fr_nil HF5.out F9.out) f10⟩
end Go.Proofs.Ytfmhfngilimhjaa.Im

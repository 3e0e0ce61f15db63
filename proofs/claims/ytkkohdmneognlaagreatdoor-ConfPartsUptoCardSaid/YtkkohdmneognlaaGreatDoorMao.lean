/- The contract of takeRoute. -/
import Derived.Test.YtkkohdmneognlaaGreatDoorMan
import Derived.Deep.RegionHeld3
import Derived.Deep.CutRange
namespace Go.Proofs.YtkkohdmneognlaaGreatDoor
open Go.RowKit
attribute [local go_sem] Oper.semAt_some

theorem cut_len (s sep : List UInt8) : (Lib.cut s sep).1.length ≤ s.length ∧ (Lib.cut s sep).2.1.length ≤ s.length := by
  unfold Lib.cut
  split
  · simp only [List.length_take, List.length_drop]
    omega
  · exact ⟨Nat.le_refl _, Nat.zero_le _⟩

theorem pathOf_at : ∀ (m : Nat) (l : List Int), l.length = m * 3 → (pathOf l).length = m ∧ ∀ j (hj : j < (pathOf l).length), (pathOf l)[j] = ⟨l.getD (j * 3) 0, l.getD (j * 3 + 1) 0, l.getD (j * 3 + 2) 0⟩
  | 0, l, h => by
    have : l = [] := List.eq_nil_of_length_eq_zero (by omega)
    subst this
    exact ⟨rfl, fun j hj => by simp [pathOf] at hj⟩
  | m + 1, l, h => by
    match l, h with
    | [], h | [_], h | [_, _], h => simp at h <;> omega
    | a :: b :: c :: r, h =>
      have hr : r.length = m * 3 := by simp at h; omega
      obtain ⟨h1, h2⟩ := pathOf_at m r hr
      refine ⟨by rw [pathOf, List.length_cons, h1], fun j hj => ?_⟩
      rcases j with _ | j
      · rfl
      · have e : (pathOf (a :: b :: c :: r))[j + 1] = (pathOf r)[j]'(by simpa [pathOf] using hj) := by simp [pathOf]
        rw [e, h2]
        have e3 : (j + 1) * 3 = j * 3 + 1 + 1 + 1 := by omega
        rw [e3]
        simp
theorem flankOf_at : ∀ (m : Nat) (l : List Int), l.length = m * 2 → (flankOf l).length = m ∧ ∀ j (hj : j < (flankOf l).length), (flankOf l)[j] = ⟨l.getD (j * 2) 0, l.getD (j * 2 + 1) 0⟩
  | 0, l, h => by
    have : l = [] := List.eq_nil_of_length_eq_zero (by omega)
    subst this
    exact ⟨rfl, fun j hj => by simp [flankOf] at hj⟩
  | m + 1, l, h => by
    match l, h with
    | [], h | [_], h => simp at h <;> omega
    | a :: b :: r, h =>
      have hr : r.length = m * 2 := by simp at h; omega
      obtain ⟨h1, h2⟩ := flankOf_at m r hr
      refine ⟨by rw [flankOf, List.length_cons, h1], fun j hj => ?_⟩
      rcases j with _ | j
      · rfl
      · have e : (flankOf (a :: b :: r))[j + 1] = (flankOf r)[j]'(by simpa [flankOf] using hj) := by simp [flankOf]
        rw [e, h2]
        have e3 : (j + 1) * 2 = j * 2 + 1 + 1 := by omega
        rw [e3]
        simp
theorem own_ne_def {w : World} {base size n b : Nat} {e : TypeId} {v : Value} {xs : List Value} {x : Option (List Deferred)} (h : w.ownsRow base e size v n xs) (hd : w.heap[b]? = some (.deferred x)) : ∀ k, v.ownBlock = some k → ¬ k = b := by
  intro k hk e
  subst e
  rcases h.2 with ⟨hv, _⟩ | ⟨g, cap, cur, hv, _, hg, _⟩
  · rw [hv] at hk; cases hk
  · rw [hv] at hk
    obtain rfl : g = k := by simpa [Value.ownBlock] using hk
    rw [hg] at hd
    cases hd
theorem PlanAt.put {q pb b : Nat} {C : Cm} {w : World} {x : Option (List Deferred)} (h : PlanAt q pb C w) (hd : w.heap[b]? = some (.deferred x)) (o : Obj) : PlanAt q pb C (w.putObj b o) := by
  have f : Fr (fun k => k = b) w (w.putObj b o) := Fr.putObj o rfl
  have hpb : ¬ pb = b := fun e => by
    have k := h.here
    unfold Is at k
    rw [e, hd] at k
    cases k
  exact ⟨h.here.fr f hpb, h.lt, Nat.le_trans h.hq f.size, wide_fr h.o1 f (own_ne_def h.o1 hd), wide_fr h.o2 f (own_ne_def h.o2 hd), wide_fr h.o3 f (own_ne_def h.o3 hd), wide_fr h.o4 f (own_ne_def h.o4 hd), wide_fr h.o5 f (own_ne_def h.o5 hd), fun r hr => ⟨wide_fr (h.each r hr).p f (own_ne_def (h.each r hr).p hd), wide_fr (h.each r hr).f f (own_ne_def (h.each r hr).f hd), wide_fr (h.each r hr).o f (own_ne_def (h.each r hr).o hd)⟩, h.sep⟩
theorem lt_heap {w : World} {k : Nat} {o : Obj} (h : w.heap[k]? = some o) : k < w.heap.size := (Array.getElem?_eq_some_iff.1 h).1
theorem rlen3 {l : List Int} (h : l.length = 3) : ∃ a b c, l = [a, b, c] := by
  match l, h with
  | [a, b, c], _ => exact ⟨a, b, c, rfl⟩
theorem Tryz.infoRo : (Tryz.prog.info? 43).map (fun i => (i.zero, i.size, i.bytes)) = some (some (.agg #[.int .i64 0, .int .i64 0, .slice none 0 0, .slice none 0 0, .slice none 0 0, .bool false]), 6, 96) := by kernel_rfl

set_option maxRecDepth 100000 in
set_option maxHeartbeats 16000000 in
theorem takeRoute_any (q pb : Nat) (C : Cm) (s : List UInt8) (w : World) (h : PlanAt q pb C w) (hz : Sz 268435456 C.cf) (hs : s.length ≤ 268435456) (hR : Rds w) :
    Calls Tryz.prog 113 #[.pointer (some ⟨pb, 0, none⟩), .string ⟨s.toArray⟩] w fun e w' => e = .returned (.tuple #[]) ∧ ∃ C' : Cm, C'.cf = takeRt s C.cf ∧ PlanAt q pb C' w' ∧ Fr (fun k => k = pb ∨ q ≤ k) w w' := by
  obtain ⟨h1l, h1r⟩ := cut_len s (32 :: wPath)
  obtain ⟨h2l, h2r⟩ := cut_len (Lib.cut s (32 :: wPath)).2.1 (32 :: wFlank)
  obtain ⟨h3l, h3r⟩ := cut_len (Lib.cut (Lib.cut s (32 :: wPath)).2.1 (32 :: wFlank)).2.1 (32 :: wOver)
  have htr : takeRt s C.cf = takeRt s C.cf := rfl
  conv at htr => rhs; unfold takeRt
  generalize hc1 : Lib.cut s (32 :: wPath) = cc1 at *
  obtain ⟨sa, s1, fa⟩ := cc1
  dsimp only at h1l h1r h2l h2r h3l h3r htr
  generalize hc2 : Lib.cut s1 (32 :: wFlank) = cc2 at *
  obtain ⟨sb, s2, fb⟩ := cc2
  dsimp only at h2l h2r h3l h3r htr
  generalize hc3 : Lib.cut s2 (32 :: wOver) = cc3 at *
  obtain ⟨sc, sd, fc⟩ := cc3
  dsimp only at h3l h3r htr
  have K1 := cut_any s (32 :: wPath) w (by omega) hR
  have K2 := fun W (f : Fr (fun _ => False) w W) => cut_any s1 (32 :: wFlank) W (by omega) (hR.fr f)
  have K3 := fun W (f : Fr (fun _ => False) w W) => cut_any s2 (32 :: wOver) W (by omega) (hR.fr f)
  rw [hc1] at K1
  rw [hc2] at K2
  rw [hc3] at K3
  dsimp only at K1 K2 K3
  have N1 := fun W (f : Fr (fun _ => False) w W) => numbers_any sa W (by omega) (hR.fr f).tabs (hR.fr f).errs
  have N2 := fun W (f : Fr (fun _ => False) w W) => numbers_any sb W (by omega) (hR.fr f).tabs (hR.fr f).errs
  have N3 := fun W (f : Fr (fun _ => False) w W) => numbers_any sc W (by omega) (hR.fr f).tabs (hR.fr f).errs
  have N4 := fun W (f : Fr (fun _ => False) w W) => numbers_any sd W (by omega) (hR.fr f).tabs (hR.fr f).errs
  have e1 : (fieldsM sa).map numOf = numsOf sa := rfl
  have e2 : (fieldsM sb).map numOf = numsOf sb := rfl
  have e3 : (fieldsM sc).map numOf = numsOf sc := rfl
  have e4 : (fieldsM sd).map numOf = numsOf sd := rfl
  have l1 : (numsOf sa).length ≤ 268435457 := by rw [← e1, List.length_map]; have := fieldsN_cnt sa sa.length (-1) 0; exact Nat.le_trans this (by omega)
  have l2 : (numsOf sb).length ≤ 268435457 := by rw [← e2, List.length_map]; have := fieldsN_cnt sb sb.length (-1) 0; exact Nat.le_trans this (by omega)
  have l3 : (numsOf sc).length ≤ 268435457 := by rw [← e3, List.length_map]; have := fieldsN_cnt sc sc.length (-1) 0; exact Nat.le_trans this (by omega)
  have l4 : (numsOf sd).length ≤ 268435457 := by rw [← e4, List.length_map]; have := fieldsN_cnt sd sd.length (-1) 0; exact Nat.le_trans this (by omega)
  rw [e1] at N1
  rw [e2] at N2
  rw [e3] at N3
  rw [e4] at N4
  clear e1 e2 e3 e4 hc1 hc2 hc3
  generalize numsOf sa = M1 at *
  generalize numsOf sb = M2 at *
  generalize numsOf sc = M3 at *
  generalize numsOf sd = M4 at *
  have HT := Lib.hid htr
  clear htr
  have K1' : Calls _ _ #[.string ⟨s.toArray⟩, .string ⟨#[32, 112, 97, 116, 104]⟩] w _ := K1
  have K2' : ∀ W, Fr (fun _ => False) w W → Calls _ _ #[.string ⟨s1.toArray⟩, .string ⟨#[32, 102, 108, 97, 110, 107]⟩] W _ := K2
  have K3' : ∀ W, Fr (fun _ => False) w W → Calls _ _ #[.string ⟨s2.toArray⟩, .string ⟨#[32, 111, 118, 101, 114, 108, 97, 112]⟩] W _ := K3
  clear K1 K2 K3
  refine calls_marks Tryz.func113 rfl ?_
  simp only [Tryz.ntmps113, List.size_toArray, List.length_cons, List.length_nil, Nat.reduceAdd, Nat.reduceSub, Array.replicate_succ, Array.replicate_zero, List.push_toArray, List.append_toArray, List.nil_append, List.cons_append]
  go_wp2_with fail
  refine K1'.mono ?_
  rintro _ w1 ⟨rfl, f1⟩
  go_wp2_with fail
  refine (K2' _ f1).mono ?_
  rintro _ w2 ⟨rfl, f2⟩
  have f2 := fr_nil f1 f2
  clear f1
  go_wp2_with fail
  refine (K3' _ f2).mono ?_
  rintro _ w3 ⟨rfl, f3⟩
  have f3 := fr_nil f2 f3
  clear f2 K1' K2' K3'
  go_wp2_with fail
  refine (N1 _ f3).mono ?_
  rintro _ w4 ⟨A1, c1, rfl, o1, f4⟩
  have F4 := fr_nil f3 f4
  go_wp2_with fail
  refine (N2 _ F4).mono ?_
  rintro _ w5 ⟨A2, c2, rfl, o2, f5⟩
  have F5 := fr_nil F4 f5
  have o1 := wide_fr o1 f5 fun _ _ => id
  go_wp2_with fail
  refine (N3 _ F5).mono ?_
  rintro _ w6 ⟨A3, c3, rfl, o3, f6⟩
  have F6 := fr_nil F5 f6
  have o1 := wide_fr o1 f6 fun _ _ => id
  have o2 := wide_fr o2 f6 fun _ _ => id
  have b1 := f4.size
  have b2 := f5.size
  have b3 := f3.size
  have b4 := f6.size
  clear f3 f4 f5 f6 F4 F5 N1 N2 N3
  by_cases t1 : M1.length = 3
  rotate_left
  · have k1 : ¬ (M1.length : Int) = 3 := by omega
    go_wp2_with fail
    refine ⟨_, results_none rfl _ _ _, rfl, C, ?_, h.fr F6, F6.mono fun _ _ h => h.elim⟩
    rw [HT.out]
    rw [if_pos (.inl t1)]

  by_cases t2 : M2.length % 3 = 0
  rotate_left
  · have k1 : (M1.length : Int) = 3 := by omega
    have k2 : ¬ (M2.length : Int) % 3 = 0 := by omega
    go_wp2_with fail
    refine ⟨_, results_none rfl _ _ _, rfl, C, ?_, h.fr F6, F6.mono fun _ _ h => h.elim⟩
    rw [HT.out]
    rw [if_pos (.inr (.inl t2))]

  by_cases t3 : M3.length % 2 = 0
  rotate_left
  · have k1 : (M1.length : Int) = 3 := by omega
    have k2 : (M2.length : Int) % 3 = 0 := by omega
    have k3 : ((M3.length : Int) % 2 != 0) = true := by simp; omega
    go_wp2_with fail
    refine ⟨_, results_none rfl _ _ _, rfl, C, ?_, h.fr F6, F6.mono fun _ _ h => h.elim⟩
    rw [HT.out]
    rw [if_pos (.inr (.inr t3))]

  have hfin : takeRt s C.cf = { C.cf with rts := C.cf.rts ++ [⟨M1.getD 0 0, M1.getD 1 0, pathOf M2, flankOf M3, M4, decide (M1.getD 2 0 = 1)⟩] } := by
    rw [HT.out]
    dsimp only
    rw [if_neg (fun h => h.elim (fun h => h t1) fun h => h.elim (fun h => h t2) fun h => h t3)]
  have HF := Lib.hid hfin
  clear HT hfin
  obtain ⟨_, _, eA, _, _, hA, _⟩ := wide_form o1
  injection eA with eA1 _ eA2
  subst eA1 eA2
  obtain ⟨g1, rfl, hg1⟩ := hA (by omega)
  clear hA
  have hrd := rd_getD (wide_rd o1)
  clear o1
  obtain ⟨x0, x1, x2, rfl⟩ := rlen3 t1
  have r0 := hrd 0 (by simp)
  have r1 := hrd 1 (by simp)
  have r2 := hrd 2 (by simp)
  obtain ⟨m2, hm2⟩ : ∃ m, M2.length = m * 3 := ⟨M2.length / 3, by omega⟩
  obtain ⟨m3, hm3⟩ : ∃ m, M3.length = m * 2 := ⟨M3.length / 2, by omega⟩
  have k2 : (M2.length : Int) % 3 = 0 := by omega
  have k3 : ((M3.length : Int) % 2 != 0) = false := by simp; omega
  have hSf : ∀ Wx, Fr (fun _ => False) w6 Wx → Wx.cell? ⟨g1, 0, none⟩ = some (.int .i64 x0) ∧ Wx.cell? ⟨g1, 1, none⟩ = some (.int .i64 x1) ∧ Wx.cell? ⟨g1, 2, none⟩ = some (.int .i64 x2) := fun Wx f => by
    have fc : ∀ j, Wx.cell? ⟨g1, j, none⟩ = w6.cell? ⟨g1, j, none⟩ := fun j => f.cell (p := ⟨g1, j, none⟩) hg1 id
    simp only [fc]
    exact ⟨by simpa only [Nat.zero_add, List.getD_cons_zero, List.getD_cons_succ] using r0, by simpa only [Nat.zero_add, List.getD_cons_zero, List.getD_cons_succ] using r1, by simpa only [Nat.zero_add, List.getD_cons_zero, List.getD_cons_succ] using r2⟩
  go_upto_region 5 with (fail)
  go_cut [14] from 56 to 68 (fun v14 wx => ∃ rb A4 c4, v14 = .pointer (some ⟨rb, 0, none⟩) ∧ Is wx rb 43 #[.int .i64 x0, .int .i64 x1, .slice none 0 0, .slice none 0 0, .slice A4 M4.length c4, .bool (x2 == 1)] ∧ wx.ownsRow w6.heap.size 3 1 (.slice A4 M4.length c4) M4.length (M4.map (Value.int .i64)) ∧ Fr (fun _ => False) w6 wx ∧ w6.heap.size ≤ rb)
  case first =>
    refine wp_region_noPanic ?_
    refine wp_region_held_drew (S := fun Wx => Wx.cell? ⟨g1, 0, none⟩ = some (.int .i64 x0) ∧ Wx.cell? ⟨g1, 1, none⟩ = some (.int .i64 x1) ∧ Wx.cell? ⟨g1, 2, none⟩ = some (.int .i64 x2)) (by kernel_rfl) (hSf _ ((Fr.refl _ w6).drew)) (fun hHeld => ?_)
    refine wpAnyH_take (i := 0) (v := ?_) rfl (by kernel_rfl) (by kernel_rfl) (by kernel_rfl) (fun _ _ _ h => h) (Or.inl ⟨by rfl, ?_⟩) (by assumption) ?_
    rotate_left
    · intro Wx hSw
      try dsimp only at hSw
      go_simp
      try with_reducible rfl
    try simp only [Act.put]
    refine wpAnyH_take (i := 1) (v := ?_) rfl (by kernel_rfl) (by kernel_rfl) (by kernel_rfl) (fun _ _ _ h => h) (Or.inl ⟨by rfl, ?_⟩) (by assumption) ?_
    rotate_left
    · intro Wx hSw
      try dsimp only at hSw
      go_simp
      try with_reducible rfl
    try simp only [Act.put]
    refine wpAnyH_take (i := 2) (v := ?_) rfl (by kernel_rfl) (by kernel_rfl) (by kernel_rfl) (fun _ _ _ h => h) (Or.inl ⟨by rfl, ?_⟩) (by assumption) ?_
    rotate_left
    · intro Wx hSw
      try dsimp only at hSw
      go_simp
      try with_reducible rfl
    try simp only [Act.put]
    refine wpAnyH_take (i := 3) (v := ?_) rfl (by kernel_rfl) (by kernel_rfl) (by kernel_rfl) (fun _ _ _ h => h) (Or.inl ⟨by rfl, ?_⟩) (by assumption) ?_
    rotate_left
    · intro Wx hSw
      try dsimp only at hSw
      go_simp
      try with_reducible rfl
    try simp only [Act.put]
    refine wpAnyH_take (i := 4) (v := ?_) rfl (by kernel_rfl) (by kernel_rfl) (by kernel_rfl) (fun _ _ _ h => h) (Or.inl ⟨by rfl, ?_⟩) (by assumption) ?_
    rotate_left
    · intro Wx hSw
      try dsimp only at hSw
      go_simp
      try with_reducible rfl
    try simp only [Act.put]
    refine wpAnyH_take (i := 5) (v := ?_) rfl (by kernel_rfl) (by kernel_rfl) (by kernel_rfl) (fun _ _ _ h => h) (Or.inl ⟨by rfl, ?_⟩) (by assumption) ?_
    rotate_left
    · intro Wx hSw
      try dsimp only at hSw
      go_simp
      try with_reducible rfl
    try simp only [Act.put]
    refine wpAnyH_take (i := 6) (v := ?_) rfl (by kernel_rfl) (by kernel_rfl) (by kernel_rfl) (fun _ _ _ h => h) (Or.inl ⟨by rfl, ?_⟩) (by assumption) ?_
    rotate_left
    · intro Wx hSw
      try dsimp only at hSw
      go_simp
      try with_reducible rfl
    try simp only [Act.put]
    refine wpAnyH_take (i := 7) (v := ?_) rfl (by kernel_rfl) (by kernel_rfl) (by kernel_rfl) (fun _ _ _ h => h) (Or.inl ⟨by rfl, ?_⟩) (by assumption) ?_
    rotate_left
    · intro Wx hSw
      try dsimp only at hSw
      go_simp
      try with_reducible rfl
    try simp only [Act.put]
    refine wpAnyH_take (i := 8) (v := ?_) rfl (by kernel_rfl) (by kernel_rfl) (by kernel_rfl) (fun _ _ _ h => h) (Or.inl ⟨by rfl, ?_⟩) (by assumption) ?_
    rotate_left
    · intro Wx hSw
      try dsimp only at hSw
      go_simp
      try with_reducible rfl
    try simp only [Act.put]
    refine wpAnyH_take (i := 9) (v := ?_) rfl (by kernel_rfl) (by kernel_rfl) (by kernel_rfl) (fun _ _ _ h => h) (Or.inl ⟨by rfl, ?_⟩) (by assumption) ?_
    rotate_left
    · intro Wx hSw
      try dsimp only at hSw
      go_simp
      try with_reducible rfl
    try simp only [Act.put]
    refine wpAnyH_take (i := 10) (v := ?_) rfl (by kernel_rfl) (by kernel_rfl) (by kernel_rfl) (fun _ _ _ h => h) (Or.inl ⟨by rfl, ?_⟩) (by assumption) ?_
    rotate_left
    · intro Wx hSw
      try dsimp only at hSw
      go_simp
      try with_reducible rfl
    try simp only [Act.put]
    refine wpAnyH_ready (rs := [11, 13]) (by kernel_rfl) (by simp) (AllReadyH.cons rfl (fun K hK => ?_) (AllReadyH.cons rfl (fun K hK => ?_) AllReadyH.nil))
    · go_simp
      refine (N4 _ ((fr_nil F6 ((Fr.refl _ w6).drew)))).mono ?_
      rintro _ w7 ⟨A4, c4, rfl, o4, f7⟩
      have f7 := fr_nil ((Fr.refl _ w6).drew) f7
      go_simp
      refine hK.out _ _ (hSf _ f7) (fun hHeld => ?_)
      clear hK K
      refine wpAnyH_take (i := 12) (v := ?_) rfl (by kernel_rfl) (by kernel_rfl) (by kernel_rfl) (fun _ _ _ h => h) (Or.inl ⟨by rfl, ?_⟩) (by assumption) ?_
      rotate_left
      · intro Wx hSw
        try dsimp only at hSw
        go_simp
        try with_reducible rfl
      try simp only [Act.put]
      refine wpAnyH_ready (rs := [13]) (by kernel_rfl) (by simp) (AllReadyH.cons rfl (fun K hK => ?_) AllReadyH.nil)
      go_simp
      refine hK.out _ _ (hSf _ (f7.alloc _)) (fun hHeld => ?_)
      clear hK K
      have isn := Is.new w7 43 #[.int .i64 0, .int .i64 0, .slice none 0 0, .slice none 0 0, .slice none 0 0, .bool false]
      have fl := f7.alloc (.cells #[.int .i64 0, .int .i64 0, .slice none 0 0, .slice none 0 0, .slice none 0 0, .bool false] 43)
      have ol : (w7.alloc (.cells #[.int .i64 0, .int .i64 0, .slice none 0 0, .slice none 0 0, .slice none 0 0, .bool false] 43)).ownsRow w6.heap.size 3 1 (.slice A4 M4.length c4) M4.length (M4.map (Value.int .i64)) := wide_fr o4 ((Fr.refl (fun _ => False) w7).alloc _) fun _ _ => id
      have hrb := f7.size
      generalize hwl : w7.alloc (.cells #[.int .i64 0, .int .i64 0, .slice none 0 0, .slice none 0 0, .slice none 0 0, .bool false] 43) = wl at *
      refine wpAnyH_ready (rs := [14]) (by kernel_rfl) (by simp) (AllReadyH.cons rfl (fun K hK => ?_) AllReadyH.nil)
      have y0 := isn.cell 0
      have y1 := isn.cell 1
      have y2 := isn.cell 2
      have y3 := isn.cell 3
      have y4 := isn.cell 4
      have y5 := isn.cell 5
      have z := isn.frozen
      simp at y0 y1 y2 y3 y4 y5
      go_simp
      have isf := (((((isn.set 0 (.int .i64 x0)).set 1 (.int .i64 x1)).set 2 (.slice none 0 0)).set 3 (.slice none 0 0)).set 4 (.slice A4 M4.length c4)).set 5 (.bool (x2 == 1))
      simp at isf
      have fsf : Fr (fun k => k = w7.heap.size) _ _ := ((((((Fr.refl (fun k => k = w7.heap.size) wl).setCell (p := ⟨w7.heap.size, 0, none⟩) (.inl rfl) (.int .i64 x0)).setCell (p := ⟨w7.heap.size, 1, none⟩) (.inl rfl) (.int .i64 x1)).setCell (p := ⟨w7.heap.size, 2, none⟩) (.inl rfl) (.slice none 0 0)).setCell (p := ⟨w7.heap.size, 3, none⟩) (.inl rfl) (.slice none 0 0)).setCell (p := ⟨w7.heap.size, 4, none⟩) (.inl rfl) (.slice A4 M4.length c4)).setCell (p := ⟨w7.heap.size, 5, none⟩) (.inl rfl) (.bool (x2 == 1))
      refine hK.out _ _ (hSf _ (fl.trans fsf fun k hk e => by omega)) (fun hHeld => ?_)
      clear hK K
      refine wpAnyH_done (by kernel_rfl) (NoPanic.normal ?_) _
      go_wp2_with fail
      go_meet
      exact ⟨_, _, _, rfl, isf, wide_fr ol fsf (fun k hk e => wide_is_ne ol isn (by decide) (e ▸ hk)), fl.trans fsf fun k hk e => by omega, hrb⟩
    · go_simp
      refine hK.out _ _ (hSf _ (((Fr.refl _ w6).drew).alloc _)) (fun hHeld => ?_)
      clear hK K
      have isn0 := (Is.new w6 43 #[.int .i64 0, .int .i64 0, .slice none 0 0, .slice none 0 0, .slice none 0 0, .bool false])
      refine wpAnyH_ready (rs := [11]) (by kernel_rfl) (by simp) (AllReadyH.cons rfl (fun K hK => ?_) AllReadyH.nil)
      go_simp
      refine (N4 _ ((fr_nil F6 (((Fr.refl _ w6).alloc (.cells #[.int .i64 0, .int .i64 0, .slice none 0 0, .slice none 0 0, .slice none 0 0, .bool false] 43)).drew)))).mono ?_
      rintro _ wl ⟨A4, c4, rfl, o4, f7⟩
      have isn := isn0.drew.fr f7 id
      have fl := fr_nil (((Fr.refl (fun _ => False) w6).alloc (.cells #[.int .i64 0, .int .i64 0, .slice none 0 0, .slice none 0 0, .slice none 0 0, .bool false] 43)).drew) f7
      have ol : wl.ownsRow w6.heap.size 3 1 (.slice A4 M4.length c4) M4.length (M4.map (Value.int .i64)) := wide_base o4 (by simp)
      go_simp
      refine hK.out _ _ (hSf _ fl) (fun hHeld => ?_)
      clear hK K isn0
      refine wpAnyH_take (i := 12) (v := ?_) rfl (by kernel_rfl) (by kernel_rfl) (by kernel_rfl) (fun _ _ _ h => h) (Or.inl ⟨by rfl, ?_⟩) (by assumption) ?_
      rotate_left
      · intro Wx hSw
        try dsimp only at hSw
        go_simp
        try with_reducible rfl
      try simp only [Act.put]
      refine wpAnyH_ready (rs := [14]) (by kernel_rfl) (by simp) (AllReadyH.cons rfl (fun K hK => ?_) AllReadyH.nil)
      have y0 := isn.cell 0
      have y1 := isn.cell 1
      have y2 := isn.cell 2
      have y3 := isn.cell 3
      have y4 := isn.cell 4
      have y5 := isn.cell 5
      have z := isn.frozen
      simp at y0 y1 y2 y3 y4 y5
      go_simp
      have isf := (((((isn.set 0 (.int .i64 x0)).set 1 (.int .i64 x1)).set 2 (.slice none 0 0)).set 3 (.slice none 0 0)).set 4 (.slice A4 M4.length c4)).set 5 (.bool (x2 == 1))
      simp at isf
      have fsf : Fr (fun k => k = w6.heap.size) _ _ := ((((((Fr.refl (fun k => k = w6.heap.size) wl).setCell (p := ⟨w6.heap.size, 0, none⟩) (.inl rfl) (.int .i64 x0)).setCell (p := ⟨w6.heap.size, 1, none⟩) (.inl rfl) (.int .i64 x1)).setCell (p := ⟨w6.heap.size, 2, none⟩) (.inl rfl) (.slice none 0 0)).setCell (p := ⟨w6.heap.size, 3, none⟩) (.inl rfl) (.slice none 0 0)).setCell (p := ⟨w6.heap.size, 4, none⟩) (.inl rfl) (.slice A4 M4.length c4)).setCell (p := ⟨w6.heap.size, 5, none⟩) (.inl rfl) (.bool (x2 == 1))
      refine hK.out _ _ (hSf _ (fl.trans fsf fun k hk e => by omega)) (fun hHeld => ?_)
      clear hK K
      refine wpAnyH_done (by kernel_rfl) (NoPanic.normal ?_) _
      go_wp2_with fail
      go_meet
      exact ⟨_, _, _, rfl, isf, wide_fr ol fsf (fun k hk e => wide_is_ne ol isn (by decide) (e ▸ hk)), fl.trans fsf fun k hk e => by omega, Nat.le_refl _⟩
  case rest =>
    obtain ⟨rb, A4, c4, rfl, isr, o4, f7, hrb⟩ := hcut
    have isr0 := isr
    have F7 := fr_nil F6 f7
    have hs7 := f7.size
    go_wp2_with fail
    refine (chunk_mk 3 (by decide) (by decide) wc).mono ?_
    rintro _ wc8 ⟨rfl, ib1, ib2, f8, z8wc⟩
    have g8 := Fr.trans (Fr.refl (fun k => k = rb) wc) f8 fun _ _ h => h.elim
    go_wp2_with fail
    obtain ⟨_, _, eA, hlc, hcm, hA2, _⟩ := wide_form o2
    injection eA with eA1 _ eA2
    subst eA1 eA2
    rw [hm2] at hlc
    unfold maxLen at hcm
    obtain ⟨hPl, hPat⟩ := pathOf_at m2 M2 hm2
    have isr8 := isr.fr f8 id
    have hrlt := isr.lt
    have hc1 : m2 ≤ 17592186044416 := by omega
    have hc2 : c2 ≤ 9223372036854775807 := by omega
    have hseq := chunk_all wc.heap.size (wc.heap.size + 1) A2 m2 3 c2 wc8 (by decide) (by decide) hc1 hlc hc2 (fun h0 => by obtain ⟨g, h1, _⟩ := hA2 (by rw [hm2]; omega); exact ⟨g, 0, h1⟩) ib1 ib2
    have hsz8 : ∀ k, (k = wc.heap.size ∨ k = wc.heap.size + 1) → k < wc8.heap.size := fun k h => by omega
    refine wp_range_all (gf := 161) (lb := #[.pointer (some ⟨wc.heap.size, 0, none⟩), .pointer (some ⟨wc.heap.size + 1, 0, none⟩)]) rfl (enters_of Tryz.func161 (by kernel_rfl) rfl)
      hseq (Fr.refl _ _) (fun _ => rfl) (fun _ h => h.elim) hsz8
      (fun i W => ∃ Ax cx, Is W rb 43 #[.int .i64 x0, .int .i64 x1, (.slice Ax i cx), .slice none 0 0, .slice A4 M4.length c4, .bool (x2 == 1)] ∧ W.ownsRow (wc8.heap.size + 2) 45 3 (.slice Ax i cx) i (cellsT ((pathOf M2).take i)) ∧ Fr (fun k => k = rb) wc W)
      ?hI ?h0 (fun x => { tmps := #[Value.pointer (some { block := pb, off := 0 }), Value.string { data := s2.toArray }, undef, undef, Value.string { data := sa.toArray }, Value.bool fa, Value.string { data := sb.toArray }, Value.bool fb, Value.string { data := sc.toArray }, Value.string { data := sd.toArray }, Value.bool fc, Value.slice (some { block := g1, off := 0 }) 3 c1, Value.slice A2 (m2 * 3) c2, Value.slice A3 (m3 * 2) c3, Value.pointer (some { block := rb, off := 0 }), .slice (A2.map fun a => ⟨a.block, a.off + x * 3, none⟩) 3 3, undef, Value.tuple #[Value.string { data := sa.toArray }, Value.string { data := s1.toArray }, Value.bool fa], Value.string { data := s.toArray }, Value.tuple #[Value.string { data := sa.toArray }, Value.string { data := s1.toArray }, Value.bool fa], Value.string { data := sa.toArray }, Value.string { data := s1.toArray }, Value.bool fa, Value.tuple #[Value.string { data := sb.toArray }, Value.string { data := s2.toArray }, Value.bool fb], Value.string { data := s1.toArray }, Value.tuple #[Value.string { data := sb.toArray }, Value.string { data := s2.toArray }, Value.bool fb], Value.string { data := sb.toArray }, Value.string { data := s2.toArray }, Value.bool fb, Value.tuple #[Value.string { data := sc.toArray }, Value.string { data := sd.toArray }, Value.bool fc], Value.string { data := s2.toArray }, Value.tuple #[Value.string { data := sc.toArray }, Value.string { data := sd.toArray }, Value.bool fc], Value.string { data := sc.toArray }, Value.string { data := sd.toArray }, Value.bool fc, Value.string { data := sa.toArray }, Value.slice (some { block := g1, off := 0 }) 3 c1, Value.string { data := sb.toArray }, Value.slice A2 (m2 * 3) c2, Value.string { data := sc.toArray }, Value.slice A3 (m3 * 2) c3, Value.slice (some { block := g1, off := 0 }) 3 c1, Value.int IntKind.i64 3, Value.bool false, Value.bool false, Value.slice A2 (m2 * 3) c2, Value.int IntKind.i64 (↑m2 * 3), Value.int IntKind.i64 0, Value.bool false, Value.bool false, Value.bool false, Value.slice A3 (m3 * 2) c3, Value.int IntKind.i64 (↑m3 * 2), Value.int IntKind.i64 0, Value.bool false, Value.bool false, u56, u57, u58, u59, u60, u61, u62, u63, u64, u65, u66, u67, u68, Value.slice A2 (m2 * 3) c2, .func (.func 161) #[] #[.pointer (some ⟨wc.heap.size, 0, none⟩), .pointer (some ⟨wc.heap.size + 1, 0, none⟩)], .slice (A2.map fun a => ⟨a.block, a.off + x * 3, none⟩) 3 3, undef, undef, undef, undef, undef, undef, undef, undef, undef, undef, undef, undef, undef, undef, undef, undef, undef, undef, undef, undef, undef, undef, undef, undef, undef, undef, undef, undef, undef, undef, undef, undef, undef, undef, undef, undef, undef, undef, undef, undef, undef, undef], defers := [] }) ?assign ?body ?done
    case assign =>
      intro l x W K hK
      simp only [encC]
      gi_wp2
      exact hK
    case hI =>
      rintro i X Y ⟨Ax, cx, h1, h2, h4⟩ hf
      have two : ∀ k, k ≠ wc8.heap.size → k ≠ wc8.heap.size + 1 → ¬ (False ∨ k = wc8.heap.size ∨ k = wc8.heap.size + 1) := fun k a b h => h.elim id fun h => h.elim a b
      have hg8 := g8.size
      exact ⟨Ax, cx, h1.fr hf (two _ (by have := f8.size; omega) (by have := f8.size; omega)), wide_fr h2 hf (fun k hk => two k (by have := (World.ownsRow.lt h2 k hk).1; omega) (by have := (World.ownsRow.lt h2 k hk).1; omega)), h4.trans hf fun k hk h => (two k (by omega) (by omega) h).elim⟩
    case h0 => exact ⟨none, 0, isr8, World.ownsRow_nil _ _ _ _, g8⟩
    case body =>
      rintro l i hi W ⟨Ax, cx, h1, h2, h4⟩ hlt
      have him : i < m2 := by simpa using hi
      obtain ⟨i0, hi0, hz0, hz1, hz2⟩ := info_parts Tryz.infoT
      obtain ⟨g2, rfl, hg2⟩ := hA2 (by rw [hm2]; omega)
      have hg8 := g8.size
      have hf8 := f8.size
      have hiP : i < (pathOf M2).length := by rw [hPl]; exact him
      have hsn0 := cellsT_snoc ((pathOf M2).take i) (pathOf M2)[i]
      rw [← List.take_succ_eq_append_getElem hiP, hPat i hiP] at hsn0
      have hsn := hsn0.symm
      clear hsn0
      have hw6 : Fr (fun _ => False) w6 W := f7.trans h4 fun k hk e => by omega
      have hs6 := hw6.size
      have hrd := rd_getD (wide_rd (wide_fr o2 hw6 fun _ _ => id))
      have cells : ∀ j, j < 3 → W.cell? ⟨g2, i * 3 + j, none⟩ = some (.int .i64 (M2.getD (i * 3 + j) 0)) := fun j hj => by
        have := hrd (i * 3 + j) (by rw [hm2]; omega)
        rw [Nat.zero_add] at this
        exact this
      have q0 := cells 0 (by decide)
      have q1 := cells 1 (by decide)
      have q2 := cells 2 (by decide)
      rw [Nat.add_zero] at q0
      simp only [List.getElem_range]
      have hcm2 : i * 3 + 3 ≤ m2 * 3 := by omega
      generalize M2.getD (i * 3) 0 = y0 at *
      generalize M2.getD (i * 3 + 1) 0 = y1 at *
      generalize M2.getD (i * 3 + 2) 0 = y2 at *
      generalize hee : i * 3 = e at *
      clear cells hrd hPat hee
      have hge : ∀ k, (Value.slice Ax i cx).ownBlock = some k → wc8.heap.size + 2 ≤ k := fun k hk => (World.ownsRow.lt h2 k hk).1
      have hrg : g2 ≠ rb := by omega
      have hnrb : (Value.slice Ax i cx).ownBlock ≠ some rb := fun e2 => by have := hge rb e2; omega
      have hgW : g2 < W.heap.size := by omega
      have hSf : ∀ Wx, Fr (fun k => k ≠ g2) W Wx → Wx.cell? ⟨g2, e, none⟩ = some (.int .i64 y0) ∧ Wx.cell? ⟨g2, e + 1, none⟩ = some (.int .i64 y1) ∧ Wx.cell? ⟨g2, e + 2, none⟩ = some (.int .i64 y2) := fun Wx f => by
        have fc : ∀ j, Wx.cell? ⟨g2, j, none⟩ = W.cell? ⟨g2, j, none⟩ := fun j => f.cell (p := ⟨g2, j, none⟩) hgW (by simp)
        simp only [fc]
        exact ⟨q0, q1, q2⟩
      have hfa : Fr (fun _ => False) W ((W.drew).alloc (.cells #[.int .i64 y0, .int .i64 y1, .int .i64 y2] 45)) := ((Fr.refl _ W).drew).alloc _
      have hrow := wide_fr h2 hfa fun _ _ => id
      have hlit : Rd ((W.drew).alloc (.cells #[.int .i64 y0, .int .i64 y1, .int .i64 y2] 45)) (some ⟨W.heap.size, 0, none⟩) [.int .i64 y0, .int .i64 y1, .int .i64 y2] := lit_rd_at rfl _ _
      have h1c : ∀ u ∈ ([.int .i64 y0, .int .i64 y1, .int .i64 y2] : List Value), u.oneCell' = true := by
        intro u hu
        simp only [List.mem_cons, List.not_mem_nil, or_false] at hu
        rcases hu with rfl | rfl | rfl <;> rfl
      have hqa : wc8.heap.size + 2 ≤ ((W.drew).alloc (.cells #[.int .i64 y0, .int .i64 y1, .int .i64 y2] 45)).heap.size := Nat.le_trans hlt hfa.size
      have p0 := h1.cell 2
      have p0b := (h1.alloc (.cells #[.int .i64 y0, .int .i64 y1, .int .i64 y2] 45)).cell 2
      simp at p0 p0b
      gi_wp2
      refine wp_region_round (S := fun Wx => Wx.cell? ⟨g2, e, none⟩ = some (.int .i64 y0) ∧ Wx.cell? ⟨g2, e + 1, none⟩ = some (.int .i64 y1) ∧ Wx.cell? ⟨g2, e + 2, none⟩ = some (.int .i64 y2)) (by kernel_rfl) (by kernel_rfl) (by rintro ⟨a, w, h⟩; exact h) (hSf _ ((Fr.refl _ W).drew)) (fun hHeld => ?_)
      refine wpAnyH_take (i := 0) (v := ?_) rfl (by kernel_rfl) (by kernel_rfl) (by kernel_rfl) (fun _ _ _ h => h) (Or.inl ⟨by rfl, ?_⟩) (by assumption) ?_
      rotate_left
      · intro Wx hSw
        try dsimp only at hSw
        go_simp
        try with_reducible rfl
      try simp only [Act.put]
      refine wpAnyH_take (i := 2) (v := ?_) rfl (by kernel_rfl) (by kernel_rfl) (by kernel_rfl) (fun _ _ _ h => h) (Or.inl ⟨by rfl, ?_⟩) (by assumption) ?_
      rotate_left
      · intro Wx hSw
        try dsimp only at hSw
        go_simp
        try with_reducible rfl
      try simp only [Act.put]
      refine wpAnyH_take (i := 3) (v := ?_) rfl (by kernel_rfl) (by kernel_rfl) (by kernel_rfl) (fun _ _ _ h => h) (Or.inl ⟨by rfl, ?_⟩) (by assumption) ?_
      rotate_left
      · intro Wx hSw
        try dsimp only at hSw
        go_simp
        try with_reducible rfl
      try simp only [Act.put]
      refine wpAnyH_take (i := 4) (v := ?_) rfl (by kernel_rfl) (by kernel_rfl) (by kernel_rfl) (fun _ _ _ h => h) (Or.inl ⟨by rfl, ?_⟩) (by assumption) ?_
      rotate_left
      · intro Wx hSw
        try dsimp only at hSw
        go_simp
        try with_reducible rfl
      try simp only [Act.put]
      refine wpAnyH_take (i := 5) (v := ?_) rfl (by kernel_rfl) (by kernel_rfl) (by kernel_rfl) (fun _ _ _ h => h) (Or.inl ⟨by rfl, ?_⟩) (by assumption) ?_
      rotate_left
      · intro Wx hSw
        try dsimp only at hSw
        go_simp
        try with_reducible rfl
      try simp only [Act.put]
      refine wpAnyH_take (i := 6) (v := ?_) rfl (by kernel_rfl) (by kernel_rfl) (by kernel_rfl) (fun _ _ _ h => h) (Or.inl ⟨by rfl, ?_⟩) (by assumption) ?_
      rotate_left
      · intro Wx hSw
        try dsimp only at hSw
        go_simp
        try with_reducible rfl
      try simp only [Act.put]
      refine wpAnyH_take (i := 7) (v := ?_) rfl (by kernel_rfl) (by kernel_rfl) (by kernel_rfl) (fun _ _ _ h => h) (Or.inl ⟨by rfl, ?_⟩) (by assumption) ?_
      rotate_left
      · intro Wx hSw
        try dsimp only at hSw
        go_simp
        try with_reducible rfl
      try simp only [Act.put]
      refine wpAnyH_take (i := 8) (v := ?_) rfl (by kernel_rfl) (by kernel_rfl) (by kernel_rfl) (fun _ _ _ h => h) (Or.inl ⟨by rfl, ?_⟩) (by assumption) ?_
      rotate_left
      · intro Wx hSw
        try dsimp only at hSw
        go_simp
        try with_reducible rfl
      try simp only [Act.put]
      refine wpAnyH_take (i := 9) (v := ?_) rfl (by kernel_rfl) (by kernel_rfl) (by kernel_rfl) (fun _ _ _ h => h) (Or.inl ⟨by rfl, ?_⟩) (by assumption) ?_
      rotate_left
      · intro Wx hSw
        try dsimp only at hSw
        go_simp
        try with_reducible rfl
      try simp only [Act.put]
      refine wpAnyH_take (i := 10) (v := ?_) rfl (by kernel_rfl) (by kernel_rfl) (by kernel_rfl) (fun _ _ _ h => h) (Or.inl ⟨by rfl, ?_⟩) (by assumption) ?_
      rotate_left
      · intro Wx hSw
        try dsimp only at hSw
        go_simp
        try with_reducible rfl
      try simp only [Act.put]
      refine wpAnyH_take (i := 11) (v := ?_) rfl (by kernel_rfl) (by kernel_rfl) (by kernel_rfl) (fun _ _ _ h => h) (Or.inl ⟨by rfl, ?_⟩) (by assumption) ?_
      rotate_left
      · intro Wx hSw
        try dsimp only at hSw
        go_simp
        try with_reducible rfl
      try simp only [Act.put]
      refine wpAnyH_ready (rs := [1, 12]) (by kernel_rfl) (by simp) (AllReadyH.cons rfl (fun K hK => ?_) (AllReadyH.cons rfl (fun K hK => ?_) AllReadyH.nil))
      · go_simp
        refine hK.out _ _ (hSf _ ((Fr.refl _ W).drew)) (fun hHeld => ?_)
        clear hK K
        refine wpAnyH_ready (rs := [12]) (by kernel_rfl) (by simp) (AllReadyH.cons rfl (fun K hK => ?_) AllReadyH.nil)
        go_simp
        refine hK.out _ _ (hSf _ (hfa.mono fun _ _ h => h.elim)) (fun hHeld => ?_)
        clear hK K
        refine wpAnyH_ready (rs := [13]) (by kernel_rfl) (by simp) (AllReadyH.cons rfl (fun K hK => ?_) AllReadyH.nil)
        refine step_append_wide _ rfl (.tmp 73) (.tmp 84) 40 rfl (wc8.heap.size + 2) 45 i0 _ 3 24 Tryz.underlying40 hi0 hz0 hz1 hz2 rfl (by decide) (.slice Ax i cx) i _ (by simp [Act.eval]) hrow (some ⟨W.heap.size, 0, none⟩) 1 1 [.int .i64 y0, .int .i64 y1, .int .i64 y2] rfl (by simp [Act.eval]) hlit h1c (by unfold maxLen; omega) (by omega) hqa ?_
        intro v' w3 hown hg hat
        rw [hsn] at hown
        obtain ⟨A', c', rfl, _, _, _, _⟩ := wide_form hown
        have hF1 : Fr (fun k => (Value.slice Ax i cx).ownBlock = some k) W w3 := (hfa.mono fun _ _ h => h.elim).grown hg fun k hk => .inl hk
        have hF3 : Fr (fun k => k ≠ g2) W w3 := hF1.mono fun k hk e1 e2 => by have := hge k e1; omega
        have isx := h1.fr hF1 hnrb
        have yl := isx.cell 2
        have yz := isx.frozen 2
        simp at yl
        refine hK.out _ _ (hSf _ hF3) (fun hHeld => ?_)
        clear hK K
        refine wpAnyH_take (i := 14) (v := ?_) rfl (by kernel_rfl) (by kernel_rfl) (by kernel_rfl) (fun _ _ _ h => h) (Or.inl ⟨by rfl, ?_⟩) (by assumption) ?_
        rotate_left
        · intro Wx hSw
          try dsimp only at hSw
          go_simp
          try with_reducible rfl
        try simp only [Act.put]
        refine wpAnyH_ready (rs := [15]) (by kernel_rfl) (by simp) (AllReadyH.cons rfl (fun K hK => ?_) AllReadyH.nil)
        go_simp
        have isy := isx.set 2 (.slice A' (i + 1) c')
        simp at isy
        have hF4 : Fr (fun k => (Value.slice Ax i cx).ownBlock = some k ∨ k = rb) W (w3.setCell ⟨rb, 2, none⟩ (.slice A' (i + 1) c')) := (hF1.mono fun _ _ h => .inl h).setCell (p := ⟨rb, 2, none⟩) (.inl (.inr rfl)) _
        have hF5 : Fr (fun k => k = rb) w3 (w3.setCell ⟨rb, 2, none⟩ (.slice A' (i + 1) c')) := (Fr.refl (fun k => k = rb) w3).setCell (p := ⟨rb, 2, none⟩) (.inl rfl) _
        refine hK.out _ _ (hSf _ (hF3.setCell (p := ⟨rb, 2, none⟩) (.inl hrg.symm) _)) (fun hHeld => ?_)
        clear hK K
        refine wpAnyH_done (by kernel_rfl) ?_ _
        gi_wp2
        refine ⟨⟨A', c', isy, wide_fr hown hF5 (fun k hk e => wide_is_ne hown isx (by decide) (e ▸ hk)), h4.trans hF4 (fun k hk e => e.elim (fun e => by have := hge k e; omega) id)⟩, hF4.size, ?_⟩
        intro k hk hS
        refine hF4.block k hk fun e => ?_
        rcases e with e | e
        · have := hge k e
          omega
        · subst e
          omega
      · go_simp
        refine hK.out _ _ (hSf _ (hfa.mono fun _ _ h => h.elim)) (fun hHeld => ?_)
        clear hK K
        refine wpAnyH_ready (rs := [1]) (by kernel_rfl) (by simp) (AllReadyH.cons rfl (fun K hK => ?_) AllReadyH.nil)
        go_simp
        refine hK.out _ _ (hSf _ (hfa.mono fun _ _ h => h.elim)) (fun hHeld => ?_)
        clear hK K
        refine wpAnyH_ready (rs := [13]) (by kernel_rfl) (by simp) (AllReadyH.cons rfl (fun K hK => ?_) AllReadyH.nil)
        refine step_append_wide _ rfl (.tmp 73) (.tmp 84) 40 rfl (wc8.heap.size + 2) 45 i0 _ 3 24 Tryz.underlying40 hi0 hz0 hz1 hz2 rfl (by decide) (.slice Ax i cx) i _ (by simp [Act.eval]) hrow (some ⟨W.heap.size, 0, none⟩) 1 1 [.int .i64 y0, .int .i64 y1, .int .i64 y2] rfl (by simp [Act.eval]) hlit h1c (by unfold maxLen; omega) (by omega) hqa ?_
        intro v' w3 hown hg hat
        rw [hsn] at hown
        obtain ⟨A', c', rfl, _, _, _, _⟩ := wide_form hown
        have hF1 : Fr (fun k => (Value.slice Ax i cx).ownBlock = some k) W w3 := (hfa.mono fun _ _ h => h.elim).grown hg fun k hk => .inl hk
        have hF3 : Fr (fun k => k ≠ g2) W w3 := hF1.mono fun k hk e1 e2 => by have := hge k e1; omega
        have isx := h1.fr hF1 hnrb
        have yl := isx.cell 2
        have yz := isx.frozen 2
        simp at yl
        refine hK.out _ _ (hSf _ hF3) (fun hHeld => ?_)
        clear hK K
        refine wpAnyH_take (i := 14) (v := ?_) rfl (by kernel_rfl) (by kernel_rfl) (by kernel_rfl) (fun _ _ _ h => h) (Or.inl ⟨by rfl, ?_⟩) (by assumption) ?_
        rotate_left
        · intro Wx hSw
          try dsimp only at hSw
          go_simp
          try with_reducible rfl
        try simp only [Act.put]
        refine wpAnyH_ready (rs := [15]) (by kernel_rfl) (by simp) (AllReadyH.cons rfl (fun K hK => ?_) AllReadyH.nil)
        go_simp
        have isy := isx.set 2 (.slice A' (i + 1) c')
        simp at isy
        have hF4 : Fr (fun k => (Value.slice Ax i cx).ownBlock = some k ∨ k = rb) W (w3.setCell ⟨rb, 2, none⟩ (.slice A' (i + 1) c')) := (hF1.mono fun _ _ h => .inl h).setCell (p := ⟨rb, 2, none⟩) (.inl (.inr rfl)) _
        have hF5 : Fr (fun k => k = rb) w3 (w3.setCell ⟨rb, 2, none⟩ (.slice A' (i + 1) c')) := (Fr.refl (fun k => k = rb) w3).setCell (p := ⟨rb, 2, none⟩) (.inl rfl) _
        refine hK.out _ _ (hSf _ (hF3.setCell (p := ⟨rb, 2, none⟩) (.inl hrg.symm) _)) (fun hHeld => ?_)
        clear hK K
        refine wpAnyH_done (by kernel_rfl) ?_ _
        gi_wp2
        refine ⟨⟨A', c', isy, wide_fr hown hF5 (fun k hk e => wide_is_ne hown isx (by decide) (e ▸ hk)), h4.trans hF4 (fun k hk e => e.elim (fun e => by have := hge k e; omega) id)⟩, hF4.size, ?_⟩
        intro k hk hS
        refine hF4.block k hk fun e => ?_
        rcases e with e | e
        · have := hge k e
          omega
        · subst e
          omega
    case done =>
      rintro wd ⟨Ap, cp, isr, p5, F4⟩ hd
      rw [List.length_range] at isr p5
      rw [List.take_of_length_le (by omega)] at p5
      have hpb : ∀ k, (Value.slice Ap m2 cp).ownBlock = some k → wc8.heap.size + 2 ≤ k ∧ k < wd.heap.size := fun k hk => World.ownsRow.lt p5 k hk
      have hwcd := lt_heap hd
      clear hA2 hPl hPat hlc hcm hc1 hc2 hseq ib1 ib2 hsz8
      go_wp2_with fail
      refine (chunk_mk 2 (by decide) (by decide) wd).mono ?_
      rintro _ wd8 ⟨rfl, ib1, ib2, f8, z8wd⟩
      have g8 := Fr.trans F4 f8 fun _ _ h => h.elim
      go_wp2_with fail
      obtain ⟨_, _, eA, hlc, hcm, hA2, _⟩ := wide_form o3
      injection eA with eA1 _ eA2
      subst eA1 eA2
      rw [hm3] at hlc
      unfold maxLen at hcm
      obtain ⟨hPl, hPat⟩ := flankOf_at m3 M3 hm3
      have isr8 := isr.fr f8 id
      have hrlt := isr.lt
      have hc1 : m3 ≤ 17592186044416 := by omega
      have hc2 : c3 ≤ 9223372036854775807 := by omega
      have hseq := chunk_all wd.heap.size (wd.heap.size + 1) A3 m3 2 c3 wd8 (by decide) (by decide) hc1 hlc hc2 (fun h0 => by obtain ⟨g, h1, _⟩ := hA2 (by rw [hm3]; omega); exact ⟨g, 0, h1⟩) ib1 ib2
      have hsz8 : ∀ k, (k = wd.heap.size ∨ k = wd.heap.size + 1) → k < wd8.heap.size := fun k h => by omega
      refine wp_range_all (gf := 161) (lb := #[.pointer (some ⟨wd.heap.size, 0, none⟩), .pointer (some ⟨wd.heap.size + 1, 0, none⟩)]) rfl (enters_of Tryz.func161 (by kernel_rfl) rfl)
        hseq (Fr.refl _ _) (fun _ => rfl) (fun _ h => h.elim) hsz8
        (fun i W => ∃ Ax cx, Is W rb 43 #[.int .i64 x0, .int .i64 x1, .slice Ap m2 cp, (.slice Ax i cx), .slice A4 M4.length c4, .bool (x2 == 1)] ∧ W.ownsRow (wd8.heap.size + 2) 67 2 (.slice Ax i cx) i (cellsN ((flankOf M3).take i)) ∧ Fr (fun k => k = rb) wc W ∧ W.ownsRow (wc8.heap.size + 2) 45 3 (.slice Ap m2 cp) m2 (cellsT (pathOf M2)) ∧ W.heap[wc8.heap.size]? = some (.deferred (some [])))
        ?hI ?h0 (fun x => { tmps := #[Value.pointer (some { block := pb, off := 0 }), Value.string { data := s2.toArray }, undef, undef, Value.string { data := sa.toArray }, Value.bool fa, Value.string { data := sb.toArray }, Value.bool fb, Value.string { data := sc.toArray }, Value.string { data := sd.toArray }, Value.bool fc, Value.slice (some { block := g1, off := 0 }) 3 c1, Value.slice A2 (m2 * 3) c2, Value.slice A3 (m3 * 2) c3, Value.pointer (some { block := rb, off := 0 }), undef, .slice (A3.map fun a => ⟨a.block, a.off + x * 2, none⟩) 2 2, Value.tuple #[Value.string { data := sa.toArray }, Value.string { data := s1.toArray }, Value.bool fa], Value.string { data := s.toArray }, Value.tuple #[Value.string { data := sa.toArray }, Value.string { data := s1.toArray }, Value.bool fa], Value.string { data := sa.toArray }, Value.string { data := s1.toArray }, Value.bool fa, Value.tuple #[Value.string { data := sb.toArray }, Value.string { data := s2.toArray }, Value.bool fb], Value.string { data := s1.toArray }, Value.tuple #[Value.string { data := sb.toArray }, Value.string { data := s2.toArray }, Value.bool fb], Value.string { data := sb.toArray }, Value.string { data := s2.toArray }, Value.bool fb, Value.tuple #[Value.string { data := sc.toArray }, Value.string { data := sd.toArray }, Value.bool fc], Value.string { data := s2.toArray }, Value.tuple #[Value.string { data := sc.toArray }, Value.string { data := sd.toArray }, Value.bool fc], Value.string { data := sc.toArray }, Value.string { data := sd.toArray }, Value.bool fc, Value.string { data := sa.toArray }, Value.slice (some { block := g1, off := 0 }) 3 c1, Value.string { data := sb.toArray }, Value.slice A2 (m2 * 3) c2, Value.string { data := sc.toArray }, Value.slice A3 (m3 * 2) c3, Value.slice (some { block := g1, off := 0 }) 3 c1, Value.int IntKind.i64 3, Value.bool false, Value.bool false, Value.slice A2 (m2 * 3) c2, Value.int IntKind.i64 (↑m2 * 3), Value.int IntKind.i64 0, Value.bool false, Value.bool false, Value.bool false, Value.slice A3 (m3 * 2) c3, Value.int IntKind.i64 (↑m3 * 2), Value.int IntKind.i64 0, Value.bool false, Value.bool false, u56, u57, u58, u59, u60, u61, u62, u63, u64, u65, u66, u67, u68, Value.slice A2 (m2 * 3) c2, .func (.func 161) #[] #[.pointer (some ⟨wc.heap.size, 0, none⟩), .pointer (some ⟨wc.heap.size + 1, 0, none⟩)], undef, undef, undef, undef, undef, undef, undef, undef, undef, undef, undef, undef, undef, undef, undef, undef, .slice A3 (m3 * 2) c3, .func (.func 161) #[] #[.pointer (some ⟨wd.heap.size, 0, none⟩), .pointer (some ⟨wd.heap.size + 1, 0, none⟩)], .slice (A3.map fun a => ⟨a.block, a.off + x * 2, none⟩) 2 2, undef, undef, undef, undef, undef, undef, undef, undef, undef, undef, undef, undef, undef, undef, undef, undef, undef, undef, undef, undef, undef, undef, undef, undef], defers := [] }) ?assign ?body ?done
      case assign =>
        intro l x W K hK
        simp only [encC]
        gi_wp2
        exact hK
      case hI =>
        rintro i X Y ⟨Ax, cx, h1, h2, h4, h5, h6⟩ hf
        have two : ∀ k, k ≠ wd8.heap.size → k ≠ wd8.heap.size + 1 → ¬ (False ∨ k = wd8.heap.size ∨ k = wd8.heap.size + 1) := fun k a b h => h.elim id fun h => h.elim a b
        have hg8 := g8.size
        exact ⟨Ax, cx, h1.fr hf (two _ (by have := f8.size; omega) (by have := f8.size; omega)), wide_fr h2 hf (fun k hk => two k (by have := (World.ownsRow.lt h2 k hk).1; omega) (by have := (World.ownsRow.lt h2 k hk).1; omega)), h4.trans hf fun k hk h => (two k (by omega) (by omega) h).elim, wide_fr h5 hf (fun k hk => two k (by have := hpb k hk; have := f8.size; omega) (by have := hpb k hk; have := f8.size; omega)), (hf.block _ (by have := h4.size; have := f8.size; have := lt_heap h6; omega) (two _ (by have := f8.size; omega) (by have := f8.size; omega))).trans h6⟩
      case h0 => exact ⟨none, 0, isr8, World.ownsRow_nil _ _ _ _, g8, wide_fr p5 f8 (fun _ _ => id), (f8.block _ hwcd id).trans hd⟩
      case body =>
        rintro l i hi W ⟨Ax, cx, h1, h2, h4, h5, h6⟩ hlt
        have him : i < m3 := by simpa using hi
        obtain ⟨i0, hi0, hz0, hz1, hz2⟩ := info_parts Tryz.infoN
        obtain ⟨g2, rfl, hg2⟩ := hA2 (by rw [hm3]; omega)
        have hg8 := g8.size
        have hf8 := f8.size
        have hiP : i < (flankOf M3).length := by rw [hPl]; exact him
        have hsn0 := cellsN_snoc ((flankOf M3).take i) (flankOf M3)[i]
        rw [← List.take_succ_eq_append_getElem hiP, hPat i hiP] at hsn0
        have hsn := hsn0.symm
        clear hsn0
        have hw6 : Fr (fun _ => False) w6 W := f7.trans h4 fun k hk e => by omega
        have hs6 := hw6.size
        have hrd := rd_getD (wide_rd (wide_fr o3 hw6 fun _ _ => id))
        have cells : ∀ j, j < 2 → W.cell? ⟨g2, i * 2 + j, none⟩ = some (.int .i64 (M3.getD (i * 2 + j) 0)) := fun j hj => by
          have := hrd (i * 2 + j) (by rw [hm3]; omega)
          rw [Nat.zero_add] at this
          exact this
        have q0 := cells 0 (by decide)
        have q1 := cells 1 (by decide)
        rw [Nat.add_zero] at q0
        simp only [List.getElem_range]
        have hcm2 : i * 2 + 2 ≤ m3 * 2 := by omega
        generalize M3.getD (i * 2) 0 = y0 at *
        generalize M3.getD (i * 2 + 1) 0 = y1 at *
        generalize hee : i * 2 = e at *
        clear cells hrd hPat hee
        have hge : ∀ k, (Value.slice Ax i cx).ownBlock = some k → wd8.heap.size + 2 ≤ k := fun k hk => (World.ownsRow.lt h2 k hk).1
        have hrg : g2 ≠ rb := by omega
        have hnrb : (Value.slice Ax i cx).ownBlock ≠ some rb := fun e2 => by have := hge rb e2; omega
        have hgW : g2 < W.heap.size := by omega
        have hSf : ∀ Wx, Fr (fun k => k ≠ g2) W Wx → Wx.cell? ⟨g2, e, none⟩ = some (.int .i64 y0) ∧ Wx.cell? ⟨g2, e + 1, none⟩ = some (.int .i64 y1) := fun Wx f => by
          have fc : ∀ j, Wx.cell? ⟨g2, j, none⟩ = W.cell? ⟨g2, j, none⟩ := fun j => f.cell (p := ⟨g2, j, none⟩) hgW (by simp)
          simp only [fc]
          exact ⟨q0, q1⟩
        have hfa : Fr (fun _ => False) W ((W.drew).alloc (.cells #[.int .i64 y0, .int .i64 y1] 67)) := ((Fr.refl _ W).drew).alloc _
        have hrow := wide_fr h2 hfa fun _ _ => id
        have hlit : Rd ((W.drew).alloc (.cells #[.int .i64 y0, .int .i64 y1] 67)) (some ⟨W.heap.size, 0, none⟩) [.int .i64 y0, .int .i64 y1] := lit_rd_at rfl _ _
        have h1c : ∀ u ∈ ([.int .i64 y0, .int .i64 y1] : List Value), u.oneCell' = true := by
          intro u hu
          simp only [List.mem_cons, List.not_mem_nil, or_false] at hu
          rcases hu with rfl | rfl <;> rfl
        have hqa : wd8.heap.size + 2 ≤ ((W.drew).alloc (.cells #[.int .i64 y0, .int .i64 y1] 67)).heap.size := Nat.le_trans hlt hfa.size
        have p0 := h1.cell 3
        have p0b := (h1.alloc (.cells #[.int .i64 y0, .int .i64 y1] 67)).cell 3
        simp at p0 p0b
        gi_wp2
        refine wp_region_round (S := fun Wx => Wx.cell? ⟨g2, e, none⟩ = some (.int .i64 y0) ∧ Wx.cell? ⟨g2, e + 1, none⟩ = some (.int .i64 y1)) (by kernel_rfl) (by kernel_rfl) (by rintro ⟨a, w, h⟩; exact h) (hSf _ ((Fr.refl _ W).drew)) (fun hHeld => ?_)
        refine wpAnyH_take (i := 0) (v := ?_) rfl (by kernel_rfl) (by kernel_rfl) (by kernel_rfl) (fun _ _ _ h => h) (Or.inl ⟨by rfl, ?_⟩) (by assumption) ?_
        rotate_left
        · intro Wx hSw
          try dsimp only at hSw
          go_simp
          try with_reducible rfl
        try simp only [Act.put]
        refine wpAnyH_take (i := 2) (v := ?_) rfl (by kernel_rfl) (by kernel_rfl) (by kernel_rfl) (fun _ _ _ h => h) (Or.inl ⟨by rfl, ?_⟩) (by assumption) ?_
        rotate_left
        · intro Wx hSw
          try dsimp only at hSw
          go_simp
          try with_reducible rfl
        try simp only [Act.put]
        refine wpAnyH_take (i := 3) (v := ?_) rfl (by kernel_rfl) (by kernel_rfl) (by kernel_rfl) (fun _ _ _ h => h) (Or.inl ⟨by rfl, ?_⟩) (by assumption) ?_
        rotate_left
        · intro Wx hSw
          try dsimp only at hSw
          go_simp
          try with_reducible rfl
        try simp only [Act.put]
        refine wpAnyH_take (i := 4) (v := ?_) rfl (by kernel_rfl) (by kernel_rfl) (by kernel_rfl) (fun _ _ _ h => h) (Or.inl ⟨by rfl, ?_⟩) (by assumption) ?_
        rotate_left
        · intro Wx hSw
          try dsimp only at hSw
          go_simp
          try with_reducible rfl
        try simp only [Act.put]
        refine wpAnyH_take (i := 5) (v := ?_) rfl (by kernel_rfl) (by kernel_rfl) (by kernel_rfl) (fun _ _ _ h => h) (Or.inl ⟨by rfl, ?_⟩) (by assumption) ?_
        rotate_left
        · intro Wx hSw
          try dsimp only at hSw
          go_simp
          try with_reducible rfl
        try simp only [Act.put]
        refine wpAnyH_take (i := 6) (v := ?_) rfl (by kernel_rfl) (by kernel_rfl) (by kernel_rfl) (fun _ _ _ h => h) (Or.inl ⟨by rfl, ?_⟩) (by assumption) ?_
        rotate_left
        · intro Wx hSw
          try dsimp only at hSw
          go_simp
          try with_reducible rfl
        try simp only [Act.put]
        refine wpAnyH_take (i := 7) (v := ?_) rfl (by kernel_rfl) (by kernel_rfl) (by kernel_rfl) (fun _ _ _ h => h) (Or.inl ⟨by rfl, ?_⟩) (by assumption) ?_
        rotate_left
        · intro Wx hSw
          try dsimp only at hSw
          go_simp
          try with_reducible rfl
        try simp only [Act.put]
        refine wpAnyH_take (i := 8) (v := ?_) rfl (by kernel_rfl) (by kernel_rfl) (by kernel_rfl) (fun _ _ _ h => h) (Or.inl ⟨by rfl, ?_⟩) (by assumption) ?_
        rotate_left
        · intro Wx hSw
          try dsimp only at hSw
          go_simp
          try with_reducible rfl
        try simp only [Act.put]
        refine wpAnyH_ready (rs := [1, 9]) (by kernel_rfl) (by simp) (AllReadyH.cons rfl (fun K hK => ?_) (AllReadyH.cons rfl (fun K hK => ?_) AllReadyH.nil))
        · go_simp
          refine hK.out _ _ (hSf _ ((Fr.refl _ W).drew)) (fun hHeld => ?_)
          clear hK K
          refine wpAnyH_ready (rs := [9]) (by kernel_rfl) (by simp) (AllReadyH.cons rfl (fun K hK => ?_) AllReadyH.nil)
          go_simp
          refine hK.out _ _ (hSf _ (hfa.mono fun _ _ h => h.elim)) (fun hHeld => ?_)
          clear hK K
          refine wpAnyH_ready (rs := [10]) (by kernel_rfl) (by simp) (AllReadyH.cons rfl (fun K hK => ?_) AllReadyH.nil)
          refine step_append_wide _ rfl (.tmp 91) (.tmp 99) 41 rfl (wd8.heap.size + 2) 67 i0 _ 2 16 Tryz.underlying41 hi0 hz0 hz1 hz2 rfl (by decide) (.slice Ax i cx) i _ (by simp [Act.eval]) hrow (some ⟨W.heap.size, 0, none⟩) 1 1 [.int .i64 y0, .int .i64 y1] rfl (by simp [Act.eval]) hlit h1c (by unfold maxLen; omega) (by omega) hqa ?_
          intro v' w3 hown hg hat
          rw [hsn] at hown
          obtain ⟨A', c', rfl, _, _, _, _⟩ := wide_form hown
          have hF1 : Fr (fun k => (Value.slice Ax i cx).ownBlock = some k) W w3 := (hfa.mono fun _ _ h => h.elim).grown hg fun k hk => .inl hk
          have hF3 : Fr (fun k => k ≠ g2) W w3 := hF1.mono fun k hk e1 e2 => by have := hge k e1; omega
          have isx := h1.fr hF1 hnrb
          have yl := isx.cell 3
          have yz := isx.frozen 3
          simp at yl
          refine hK.out _ _ (hSf _ hF3) (fun hHeld => ?_)
          clear hK K
          refine wpAnyH_take (i := 11) (v := ?_) rfl (by kernel_rfl) (by kernel_rfl) (by kernel_rfl) (fun _ _ _ h => h) (Or.inl ⟨by rfl, ?_⟩) (by assumption) ?_
          rotate_left
          · intro Wx hSw
            try dsimp only at hSw
            go_simp
            try with_reducible rfl
          try simp only [Act.put]
          refine wpAnyH_ready (rs := [12]) (by kernel_rfl) (by simp) (AllReadyH.cons rfl (fun K hK => ?_) AllReadyH.nil)
          go_simp
          have isy := isx.set 3 (.slice A' (i + 1) c')
          simp at isy
          have hF4 : Fr (fun k => (Value.slice Ax i cx).ownBlock = some k ∨ k = rb) W (w3.setCell ⟨rb, 3, none⟩ (.slice A' (i + 1) c')) := (hF1.mono fun _ _ h => .inl h).setCell (p := ⟨rb, 3, none⟩) (.inl (.inr rfl)) _
          have hF5 : Fr (fun k => k = rb) w3 (w3.setCell ⟨rb, 3, none⟩ (.slice A' (i + 1) c')) := (Fr.refl (fun k => k = rb) w3).setCell (p := ⟨rb, 3, none⟩) (.inl rfl) _
          refine hK.out _ _ (hSf _ (hF3.setCell (p := ⟨rb, 3, none⟩) (.inl hrg.symm) _)) (fun hHeld => ?_)
          clear hK K
          refine wpAnyH_done (by kernel_rfl) ?_ _
          gi_wp2
          refine ⟨⟨A', c', isy, wide_fr hown hF5 (fun k hk e => wide_is_ne hown isx (by decide) (e ▸ hk)), h4.trans hF4 (fun k hk e => e.elim (fun e => by have := hge k e; omega) id), wide_fr h5 hF4 (fun k hk e => by have hb := hpb k hk; exact e.elim (fun e => by have := hge k e; omega) (fun e => by omega)), (hF4.block _ (by omega) (fun e => e.elim (fun e => by have := hge _ e; omega) (fun e => by omega))).trans h6⟩, hF4.size, ?_⟩
          intro k hk hS
          refine hF4.block k hk fun e => ?_
          rcases e with e | e
          · have := hge k e
            omega
          · subst e
            omega
        · go_simp
          refine hK.out _ _ (hSf _ (hfa.mono fun _ _ h => h.elim)) (fun hHeld => ?_)
          clear hK K
          refine wpAnyH_ready (rs := [1]) (by kernel_rfl) (by simp) (AllReadyH.cons rfl (fun K hK => ?_) AllReadyH.nil)
          go_simp
          refine hK.out _ _ (hSf _ (hfa.mono fun _ _ h => h.elim)) (fun hHeld => ?_)
          clear hK K
          refine wpAnyH_ready (rs := [10]) (by kernel_rfl) (by simp) (AllReadyH.cons rfl (fun K hK => ?_) AllReadyH.nil)
          refine step_append_wide _ rfl (.tmp 91) (.tmp 99) 41 rfl (wd8.heap.size + 2) 67 i0 _ 2 16 Tryz.underlying41 hi0 hz0 hz1 hz2 rfl (by decide) (.slice Ax i cx) i _ (by simp [Act.eval]) hrow (some ⟨W.heap.size, 0, none⟩) 1 1 [.int .i64 y0, .int .i64 y1] rfl (by simp [Act.eval]) hlit h1c (by unfold maxLen; omega) (by omega) hqa ?_
          intro v' w3 hown hg hat
          rw [hsn] at hown
          obtain ⟨A', c', rfl, _, _, _, _⟩ := wide_form hown
          have hF1 : Fr (fun k => (Value.slice Ax i cx).ownBlock = some k) W w3 := (hfa.mono fun _ _ h => h.elim).grown hg fun k hk => .inl hk
          have hF3 : Fr (fun k => k ≠ g2) W w3 := hF1.mono fun k hk e1 e2 => by have := hge k e1; omega
          have isx := h1.fr hF1 hnrb
          have yl := isx.cell 3
          have yz := isx.frozen 3
          simp at yl
          refine hK.out _ _ (hSf _ hF3) (fun hHeld => ?_)
          clear hK K
          refine wpAnyH_take (i := 11) (v := ?_) rfl (by kernel_rfl) (by kernel_rfl) (by kernel_rfl) (fun _ _ _ h => h) (Or.inl ⟨by rfl, ?_⟩) (by assumption) ?_
          rotate_left
          · intro Wx hSw
            try dsimp only at hSw
            go_simp
            try with_reducible rfl
          try simp only [Act.put]
          refine wpAnyH_ready (rs := [12]) (by kernel_rfl) (by simp) (AllReadyH.cons rfl (fun K hK => ?_) AllReadyH.nil)
          go_simp
          have isy := isx.set 3 (.slice A' (i + 1) c')
          simp at isy
          have hF4 : Fr (fun k => (Value.slice Ax i cx).ownBlock = some k ∨ k = rb) W (w3.setCell ⟨rb, 3, none⟩ (.slice A' (i + 1) c')) := (hF1.mono fun _ _ h => .inl h).setCell (p := ⟨rb, 3, none⟩) (.inl (.inr rfl)) _
          have hF5 : Fr (fun k => k = rb) w3 (w3.setCell ⟨rb, 3, none⟩ (.slice A' (i + 1) c')) := (Fr.refl (fun k => k = rb) w3).setCell (p := ⟨rb, 3, none⟩) (.inl rfl) _
          refine hK.out _ _ (hSf _ (hF3.setCell (p := ⟨rb, 3, none⟩) (.inl hrg.symm) _)) (fun hHeld => ?_)
          clear hK K
          refine wpAnyH_done (by kernel_rfl) ?_ _
          gi_wp2
          refine ⟨⟨A', c', isy, wide_fr hown hF5 (fun k hk e => wide_is_ne hown isx (by decide) (e ▸ hk)), h4.trans hF4 (fun k hk e => e.elim (fun e => by have := hge k e; omega) id), wide_fr h5 hF4 (fun k hk e => by have hb := hpb k hk; exact e.elim (fun e => by have := hge k e; omega) (fun e => by omega)), (hF4.block _ (by omega) (fun e => e.elim (fun e => by have := hge _ e; omega) (fun e => by omega))).trans h6⟩, hF4.size, ?_⟩
          intro k hk hS
          refine hF4.block k hk fun e => ?_
          rcases e with e | e
          · have := hge k e
            omega
          · subst e
            omega
      case done =>
        rintro W ⟨Ax, cx, h1, h2, h4, h5, h6⟩ hd
        rw [List.length_range] at h1 h2
        rw [List.take_of_length_le (by omega)] at h2
        obtain ⟨i0, hi0, hz0, hz1, hz2⟩ := info_parts Tryz.infoRo
        have hw6 : Fr (fun _ => False) w6 W := f7.trans h4 fun k hk e => by omega
        have hpw : PlanAt q pb C W := h.fr (fr_nil F6 hw6)
        have hq6 : q ≤ w6.heap.size := (h.fr F6).hq
        have hpl2 : (pathOf M2).length = m2 := (pathOf_at m2 M2 hm2).1
        have hfl2 : (flankOf M3).length = m3 := (flankOf_at m3 M3 hm3).1
        have s1 := f8.size
        have s2 := g8.size
        have s3 := F4.size
        have hzl : C.rs.length ≤ 268435456 := by have := hz.rts; unfold Cm.cf at this; rw [List.length_map] at this; exact this
        have hfa : Fr (fun _ => False) W ((W.drew).alloc (.cells #[.int .i64 x0, .int .i64 x1, .slice Ap m2 cp, .slice Ax m3 cx, .slice A4 M4.length c4, .bool (x2 == 1)] 43)) := ((Fr.refl _ W).drew).alloc _
        have hpa : PlanAt q pb C ((W.drew).alloc (.cells #[.int .i64 x0, .int .i64 x1, .slice Ap m2 cp, .slice Ax m3 cx, .slice A4 M4.length c4, .bool (x2 == 1)] 43)) := hpw.fr hfa
        have hrt0 : RtAt q ⟨x0, x1, Ap, cp, pathOf M2, Ax, cx, flankOf M3, A4, c4, M4, x2 == 1⟩ W := ⟨by
            show World.ownsRow _ _ _ _ (.slice Ap (pathOf M2).length cp) (pathOf M2).length _
            rw [hpl2]
            exact wide_base h5 (by omega), by
            show World.ownsRow _ _ _ _ (.slice Ax (flankOf M3).length cx) (flankOf M3).length _
            rw [hfl2]
            exact wide_base h2 (by omega), wide_base (wide_fr o4 h4 (fun k hk e => wide_is_ne o4 isr0 (by decide) (e ▸ hk))) (by omega)⟩
        have hrt : RtAt q ⟨x0, x1, Ap, cp, pathOf M2, Ax, cx, flankOf M3, A4, c4, M4, x2 == 1⟩ ((W.drew).alloc (.cells #[.int .i64 x0, .int .i64 x1, .slice Ap m2 cp, .slice Ax m3 cx, .slice A4 M4.length c4, .bool (x2 == 1)] 43)) := hrt0.fr hfa (fun _ _ => id) (fun _ _ => id) fun _ _ => id
        have hsep : ∀ k, blk A4 = some k → blk C.A4 ≠ some k := fun k hk e => by
          have e1 := (World.ownsRow.lt o4 k (by rw [Row.own]; exact hk)).1
          have e2 := wide_lt (h.fr F6).o4 k (by rw [Row.own]; exact e)
          omega
        have hsn : cellsR C.rs ++ [.int .i64 x0, .int .i64 x1, .slice Ap m2 cp, .slice Ax m3 cx, .slice A4 M4.length c4, .bool (x2 == 1)] = cellsR (C.rs ++ [⟨x0, x1, Ap, cp, pathOf M2, Ax, cx, flankOf M3, A4, c4, M4, x2 == 1⟩]) := by
          rw [cellsR_snoc]
          unfold Ro.cells
          rw [hpl2, hfl2]
        have hrow := hpa.o5
        have hlit : Rd ((W.drew).alloc (.cells #[.int .i64 x0, .int .i64 x1, .slice Ap m2 cp, .slice Ax m3 cx, .slice A4 M4.length c4, .bool (x2 == 1)] 43)) (some ⟨W.heap.size, 0, none⟩) [.int .i64 x0, .int .i64 x1, .slice Ap m2 cp, .slice Ax m3 cx, .slice A4 M4.length c4, .bool (x2 == 1)] := lit_rd_at rfl _ _
        have h1c : ∀ u ∈ ([.int .i64 x0, .int .i64 x1, .slice Ap m2 cp, .slice Ax m3 cx, .slice A4 M4.length c4, .bool (x2 == 1)] : List Value), u.oneCell' = true := by
          intro u hu
          simp only [List.mem_cons, List.not_mem_nil, or_false] at hu
          rcases hu with rfl | rfl | rfl | rfl | rfl | rfl <;> rfl
        have hqa : q ≤ ((W.drew).alloc (.cells #[.int .i64 x0, .int .i64 x1, .slice Ap m2 cp, .slice Ax m3 cx, .slice A4 M4.length c4, .bool (x2 == 1)] 43)).heap.size := hpa.hq
        have hpr : pb ≠ rb := by have := h.lt; omega
        have hnr : (Value.slice C.A5 C.rs.length C.c5).ownBlock ≠ some rb := fun e => by
          have := wide_lt (h.fr F6).o5 rb e
          omega
        have hrbW := h1.lt
        have hSf : ∀ Wx, Fr (fun k => k ≠ rb) W Wx → Wx.cell? ⟨rb, 0, none⟩ = some (.int .i64 x0) ∧ Wx.cell? ⟨rb, 1, none⟩ = some (.int .i64 x1) ∧ Wx.cell? ⟨rb, 2, none⟩ = some (.slice Ap m2 cp) ∧ Wx.cell? ⟨rb, 3, none⟩ = some (.slice Ax m3 cx) ∧ Wx.cell? ⟨rb, 4, none⟩ = some (.slice A4 M4.length c4) ∧ Wx.cell? ⟨rb, 5, none⟩ = some (.bool (x2 == 1)) := fun Wx f => by
          have fc : ∀ j, Wx.cell? ⟨rb, j, none⟩ = W.cell? ⟨rb, j, none⟩ := fun j => f.cell (p := ⟨rb, j, none⟩) hrbW (by simp)
          simp only [fc]
          exact ⟨h1.cell 0, h1.cell 1, h1.cell 2, h1.cell 3, h1.cell 4, h1.cell 5⟩
        have p0 := hpw.here.cell 4
        have p0b := (hpw.here.alloc (.cells #[.int .i64 x0, .int .i64 x1, .slice Ap m2 cp, .slice Ax m3 cx, .slice A4 M4.length c4, .bool (x2 == 1)] 43)).cell 4
        unfold Cm.arr at p0 p0b
        simp at p0 p0b
        go_upto_region 12 with (fail)
        refine wp_region_noPanic ?_
        refine wp_region_held_drew (S := fun Wx => Wx.cell? ⟨rb, 0, none⟩ = some (.int .i64 x0) ∧ Wx.cell? ⟨rb, 1, none⟩ = some (.int .i64 x1) ∧ Wx.cell? ⟨rb, 2, none⟩ = some (.slice Ap m2 cp) ∧ Wx.cell? ⟨rb, 3, none⟩ = some (.slice Ax m3 cx) ∧ Wx.cell? ⟨rb, 4, none⟩ = some (.slice A4 M4.length c4) ∧ Wx.cell? ⟨rb, 5, none⟩ = some (.bool (x2 == 1))) (by kernel_rfl) (hSf _ ((Fr.refl _ W).drew)) (fun hHeld => ?_)
        refine wpAnyH_take (i := 0) (v := ?_) rfl (by kernel_rfl) (by kernel_rfl) (by kernel_rfl) (fun _ _ _ h => h) (Or.inl ⟨by rfl, ?_⟩) (by assumption) ?_
        rotate_left
        · intro Wx hSw
          try dsimp only at hSw
          go_simp
          try with_reducible rfl
        try simp only [Act.put]
        refine wpAnyH_take (i := 1) (v := ?_) rfl (by kernel_rfl) (by kernel_rfl) (by kernel_rfl) (fun _ _ _ h => h) (Or.inl ⟨by rfl, ?_⟩) (by assumption) ?_
        rotate_left
        · intro Wx hSw
          try dsimp only at hSw
          go_simp
          try with_reducible rfl
        try simp only [Act.put]
        refine wpAnyH_take (i := 2) (v := ?_) rfl (by kernel_rfl) (by kernel_rfl) (by kernel_rfl) (fun _ _ _ h => h) (Or.inl ⟨by rfl, ?_⟩) (by assumption) ?_
        rotate_left
        · intro Wx hSw
          try dsimp only at hSw
          go_simp
          try with_reducible rfl
        try simp only [Act.put]
        refine wpAnyH_take (i := 3) (v := ?_) rfl (by kernel_rfl) (by kernel_rfl) (by kernel_rfl) (fun _ _ _ h => h) (Or.inl ⟨by rfl, ?_⟩) (by assumption) ?_
        rotate_left
        · intro Wx hSw
          try dsimp only at hSw
          go_simp
          try with_reducible rfl
        try simp only [Act.put]
        refine wpAnyH_take (i := 4) (v := ?_) rfl (by kernel_rfl) (by kernel_rfl) (by kernel_rfl) (fun _ _ _ h => h) (Or.inl ⟨by rfl, ?_⟩) (by assumption) ?_
        rotate_left
        · intro Wx hSw
          try dsimp only at hSw
          go_simp
          try with_reducible rfl
        try simp only [Act.put]
        refine wpAnyH_take (i := 6) (v := ?_) rfl (by kernel_rfl) (by kernel_rfl) (by kernel_rfl) (fun _ _ _ h => h) (Or.inl ⟨by rfl, ?_⟩) (by assumption) ?_
        rotate_left
        · intro Wx hSw
          try dsimp only at hSw
          go_simp
          try with_reducible rfl
        try simp only [Act.put]
        refine wpAnyH_ready (rs := [5, 7]) (by kernel_rfl) (by simp) (AllReadyH.cons rfl (fun K hK => ?_) (AllReadyH.cons rfl (fun K hK => ?_) AllReadyH.nil))
        · go_simp
          refine hK.out _ _ (hSf _ ((Fr.refl _ W).drew)) (fun hHeld => ?_)
          clear hK K
          refine wpAnyH_ready (rs := [7]) (by kernel_rfl) (by simp) (AllReadyH.cons rfl (fun K hK => ?_) AllReadyH.nil)
          go_simp
          refine hK.out _ _ (hSf _ (hfa.mono fun _ _ h => h.elim)) (fun hHeld => ?_)
          clear hK K
          refine wpAnyH_ready (rs := [8]) (by kernel_rfl) (by simp) (AllReadyH.cons rfl (fun K hK => ?_) AllReadyH.nil)
          refine step_append_wide _ rfl (.tmp 107) (.tmp 109) 26 rfl q 43 i0 _ 6 96 Tryz.underlying26 hi0 hz0 hz1 hz2 rfl (by decide) (.slice C.A5 C.rs.length C.c5) C.rs.length _ (by simp [Act.eval]) hrow (some ⟨W.heap.size, 0, none⟩) 1 1 [.int .i64 x0, .int .i64 x1, .slice Ap m2 cp, .slice Ax m3 cx, .slice A4 M4.length c4, .bool (x2 == 1)] rfl (by simp [Act.eval]) hlit h1c (by unfold maxLen; omega) (by omega) hqa ?_
          intro v' w3 hown hg hat
          rw [hsn] at hown
          obtain ⟨A', c', rfl, _, _, _, _⟩ := wide_form hown
          obtain ⟨hP', hF'⟩ := PlanAt.add5 hpa ⟨x0, x1, Ap, cp, pathOf M2, Ax, cx, flankOf M3, A4, c4, M4, x2 == 1⟩ hrt hsep hown hg
          have hF3 : Fr (fun k => k ≠ rb) W w3 := (hfa.mono fun _ _ h => h.elim).grown hg fun k hk => .inl (fun e => hnr (e ▸ hk))
          refine hK.out _ _ (hSf _ hF3) (fun hHeld => ?_)
          clear hK K
          refine wpAnyH_take (i := 9) (v := ?_) rfl (by kernel_rfl) (by kernel_rfl) (by kernel_rfl) (fun _ _ _ h => h) (Or.inl ⟨by rfl, ?_⟩) (by assumption) ?_
          rotate_left
          · intro Wx hSw
            try dsimp only at hSw
            go_simp
            try with_reducible rfl
          try simp only [Act.put]
          refine wpAnyH_take (i := 10) (v := ?_) rfl (by kernel_rfl) (by kernel_rfl) (by kernel_rfl) (fun _ _ _ h => h) (Or.inl ⟨by rfl, ?_⟩) (by assumption) ?_
          rotate_left
          · intro Wx hSw
            try dsimp only at hSw
            go_simp
            try with_reducible rfl
          try simp only [Act.put]
          refine wpAnyH_take (i := 11) (v := ?_) rfl (by kernel_rfl) (by kernel_rfl) (by kernel_rfl) (fun _ _ _ h => h) (Or.inl ⟨by rfl, ?_⟩) (by assumption) ?_
          rotate_left
          · intro Wx hSw
            try dsimp only at hSw
            go_simp
            try with_reducible rfl
          try simp only [Act.put]
          refine wpAnyH_ready (rs := [12]) (by kernel_rfl) (by simp) (AllReadyH.cons rfl (fun K hK => ?_) AllReadyH.nil)
          have hcs : w3.cell? ⟨pb, 4, none⟩ = some (.slice C.A5 C.rs.length C.c5) := ((hpa.here.fr ((Fr.refl _ _).grown hg fun k hk => .inl hk) (wide_is_ne hpa.o5 hpa.here (by decide))).cell 4).trans rfl
          have hcf : w3.frozen? ⟨pb, 4, none⟩ = false := (hpa.here.fr ((Fr.refl _ _).grown hg fun k hk => .inl hk) (wide_is_ne hpa.o5 hpa.here (by decide))).frozen 4
          go_simp
          refine hK.out _ _ (hSf _ (hF3.setCell (p := ⟨pb, 4, none⟩) (.inl hpr) _)) (fun hHeld => ?_)
          clear hK K
          refine wpAnyH_done (by kernel_rfl) (NoPanic.normal ?_) _
          have hfx : Fr (fun k => k = pb ∨ q ≤ k) w (w3.setCell ⟨pb, 4, none⟩ (.slice A' (C.rs.length + 1) c')) := Fr.trans ((fr_nil F6 (fr_nil hw6 hfa)).mono fun _ _ h => h.elim) hF' fun _ _ h => h
          have nq : ∀ b, q ≤ b → b < W.heap.size → W.heap[b]? = some (.deferred (some [])) → (w3.setCell ⟨pb, 4, none⟩ (.slice A' (C.rs.length + 1) c')).heap[b]? = some (.deferred (some [])) := fun b hb hbl he => by
            rw [Below.heap_setCell _ _ _ _ (fun e => by have := h.lt; simp at e; omega)]
            exact (hg.block b (Nat.lt_of_lt_of_le hbl hfa.size) (fun e => by
              rcases hpa.o5.2 with ⟨hv, _⟩ | ⟨g, cap, cur, hv, _, hgg, _⟩
              · rw [hv] at e; cases e
              · rw [hv] at e
                have e1 : b = g := by simpa [Value.ownBlock] using e
                subst e1
                have := (hfa.block b hbl id).trans he
                rw [hgg] at this
                cases this)).trans ((hfa.block b hbl id).trans he)
          have d1 := nq wd8.heap.size (by omega) (lt_heap hd) hd
          have d2 := nq wc8.heap.size (by omega) (lt_heap h6) h6
          have hne : wc8.heap.size ≠ wd8.heap.size := by omega
          rw [z8wd] at d1 hne
          rw [z8wc] at d2 hne
          have d3 := (World.putObj_heap_other (o := .deferred none) hne).trans d2
          go_wp2_with fail
          refine ⟨by simp, .inl ⟨_, _, rfl, run_takeDeferred d1, ⟨by simp, .inl ⟨_, _, rfl, run_takeDeferred d3, ?_⟩⟩⟩⟩
          refine ⟨_, results_none rfl _ _ _, rfl, _, ?_, (hP'.put d1 _).put d3 _, (hfx.trans (Fr.putObj _ (.inr (by omega))) fun _ _ h => h).trans (Fr.putObj _ (.inr (by omega))) fun _ _ h => h⟩
          rw [HF.out]
          unfold Cm.cf
          dsimp only
          rw [List.map_append]
          rfl
        · go_simp
          refine hK.out _ _ (hSf _ (hfa.mono fun _ _ h => h.elim)) (fun hHeld => ?_)
          clear hK K
          refine wpAnyH_ready (rs := [5]) (by kernel_rfl) (by simp) (AllReadyH.cons rfl (fun K hK => ?_) AllReadyH.nil)
          go_simp
          refine hK.out _ _ (hSf _ (hfa.mono fun _ _ h => h.elim)) (fun hHeld => ?_)
          clear hK K
          refine wpAnyH_ready (rs := [8]) (by kernel_rfl) (by simp) (AllReadyH.cons rfl (fun K hK => ?_) AllReadyH.nil)
          refine step_append_wide _ rfl (.tmp 107) (.tmp 109) 26 rfl q 43 i0 _ 6 96 Tryz.underlying26 hi0 hz0 hz1 hz2 rfl (by decide) (.slice C.A5 C.rs.length C.c5) C.rs.length _ (by simp [Act.eval]) hrow (some ⟨W.heap.size, 0, none⟩) 1 1 [.int .i64 x0, .int .i64 x1, .slice Ap m2 cp, .slice Ax m3 cx, .slice A4 M4.length c4, .bool (x2 == 1)] rfl (by simp [Act.eval]) hlit h1c (by unfold maxLen; omega) (by omega) hqa ?_
          intro v' w3 hown hg hat
          rw [hsn] at hown
          obtain ⟨A', c', rfl, _, _, _, _⟩ := wide_form hown
          obtain ⟨hP', hF'⟩ := PlanAt.add5 hpa ⟨x0, x1, Ap, cp, pathOf M2, Ax, cx, flankOf M3, A4, c4, M4, x2 == 1⟩ hrt hsep hown hg
          have hF3 : Fr (fun k => k ≠ rb) W w3 := (hfa.mono fun _ _ h => h.elim).grown hg fun k hk => .inl (fun e => hnr (e ▸ hk))
          refine hK.out _ _ (hSf _ hF3) (fun hHeld => ?_)
          clear hK K
          refine wpAnyH_take (i := 9) (v := ?_) rfl (by kernel_rfl) (by kernel_rfl) (by kernel_rfl) (fun _ _ _ h => h) (Or.inl ⟨by rfl, ?_⟩) (by assumption) ?_
          rotate_left
          · intro Wx hSw
            try dsimp only at hSw
            go_simp
            try with_reducible rfl
          try simp only [Act.put]
          refine wpAnyH_take (i := 10) (v := ?_) rfl (by kernel_rfl) (by kernel_rfl) (by kernel_rfl) (fun _ _ _ h => h) (Or.inl ⟨by rfl, ?_⟩) (by assumption) ?_
          rotate_left
          · intro Wx hSw
            try dsimp only at hSw
            go_simp
            try with_reducible rfl
          try simp only [Act.put]
          refine wpAnyH_take (i := 11) (v := ?_) rfl (by kernel_rfl) (by kernel_rfl) (by kernel_rfl) (fun _ _ _ h => h) (Or.inl ⟨by rfl, ?_⟩) (by assumption) ?_
          rotate_left
          · intro Wx hSw
            try dsimp only at hSw
            go_simp
            try with_reducible rfl
          try simp only [Act.put]
          refine wpAnyH_ready (rs := [12]) (by kernel_rfl) (by simp) (AllReadyH.cons rfl (fun K hK => ?_) AllReadyH.nil)
          have hcs : w3.cell? ⟨pb, 4, none⟩ = some (.slice C.A5 C.rs.length C.c5) := ((hpa.here.fr ((Fr.refl _ _).grown hg fun k hk => .inl hk) (wide_is_ne hpa.o5 hpa.here (by decide))).cell 4).trans rfl
          have hcf : w3.frozen? ⟨pb, 4, none⟩ = false := (hpa.here.fr ((Fr.refl _ _).grown hg fun k hk => .inl hk) (wide_is_ne hpa.o5 hpa.here (by decide))).frozen 4
          go_simp
          refine hK.out _ _ (hSf _ (hF3.setCell (p := ⟨pb, 4, none⟩) (.inl hpr) _)) (fun hHeld => ?_)
          clear hK K
          refine wpAnyH_done (by kernel_rfl) (NoPanic.normal ?_) _
          have hfx : Fr (fun k => k = pb ∨ q ≤ k) w (w3.setCell ⟨pb, 4, none⟩ (.slice A' (C.rs.length + 1) c')) := Fr.trans ((fr_nil F6 (fr_nil hw6 hfa)).mono fun _ _ h => h.elim) hF' fun _ _ h => h
          have nq : ∀ b, q ≤ b → b < W.heap.size → W.heap[b]? = some (.deferred (some [])) → (w3.setCell ⟨pb, 4, none⟩ (.slice A' (C.rs.length + 1) c')).heap[b]? = some (.deferred (some [])) := fun b hb hbl he => by
            rw [Below.heap_setCell _ _ _ _ (fun e => by have := h.lt; simp at e; omega)]
            exact (hg.block b (Nat.lt_of_lt_of_le hbl hfa.size) (fun e => by
              rcases hpa.o5.2 with ⟨hv, _⟩ | ⟨g, cap, cur, hv, _, hgg, _⟩
              · rw [hv] at e; cases e
              · rw [hv] at e
                have e1 : b = g := by simpa [Value.ownBlock] using e
                subst e1
                have := (hfa.block b hbl id).trans he
                rw [hgg] at this
                cases this)).trans ((hfa.block b hbl id).trans he)
          have d1 := nq wd8.heap.size (by omega) (lt_heap hd) hd
          have d2 := nq wc8.heap.size (by omega) (lt_heap h6) h6
          have hne : wc8.heap.size ≠ wd8.heap.size := by omega
          rw [z8wd] at d1 hne
          rw [z8wc] at d2 hne
          have d3 := (World.putObj_heap_other (o := .deferred none) hne).trans d2
          go_wp2_with fail
          refine ⟨by simp, .inl ⟨_, _, rfl, run_takeDeferred d1, ⟨by simp, .inl ⟨_, _, rfl, run_takeDeferred d3, ?_⟩⟩⟩⟩
          refine ⟨_, results_none rfl _ _ _, rfl, _, ?_, (hP'.put d1 _).put d3 _, (hfx.trans (Fr.putObj _ (.inr (by omega))) fun _ _ h => h).trans (Fr.putObj _ (.inr (by omega))) fun _ _ h => h⟩
          rw [HF.out]
          unfold Cm.cf
          dsimp only
          rw [List.map_append]
          rfl
end Go.Proofs.YtkkohdmneognlaaGreatDoor

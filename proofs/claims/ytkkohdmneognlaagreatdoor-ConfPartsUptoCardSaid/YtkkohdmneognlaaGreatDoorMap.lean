/- The contract of take. -/
import Derived.Test.YtkkohdmneognlaaGreatDoorMao
import Derived.Deep.RegionHeld3
namespace Go.Proofs.YtkkohdmneognlaaGreatDoor
open Go.RowKit

theorem Tryz.infoSec : (Tryz.prog.info? 62).map (fun i => (i.zero, i.size, i.bytes)) = some (some (.agg #[.int .i64 0, .int .i64 0, .int .i64 0]), 3, 24) := by kernel_rfl
theorem Tryz.infoJo : (Tryz.prog.info? 69).map (fun i => (i.zero, i.size, i.bytes)) = some (some (.agg #[.int .i64 0, .int .i64 0, .int .i64 0, .int .i64 0]), 4, 32) := by kernel_rfl
theorem Tryz.infoSg : (Tryz.prog.info? 56).map (fun i => (i.zero, i.size, i.bytes)) = some (some (.agg #[.int .i64 0, .int .i64 0]), 2, 16) := by kernel_rfl
def takeN (c : Cf) (wd : List UInt8) (n : List Int) : Cf :=
  if wd = wSec ∧ n.length = 3 then { c with secs := c.secs ++ [⟨n.getD 0 0, n.getD 1 0, n.getD 2 0⟩] }
  else if wd = wJo ∧ n.length = 4 then { c with jos := c.jos ++ [⟨n.getD 0 0, n.getD 1 0, n.getD 2 0, n.getD 3 0⟩] }
  else if wd = wSg ∧ n.length = 2 then { c with sigs := c.sigs ++ [⟨n.getD 0 0, n.getD 1 0⟩] }
  else if wd = wCr ∧ n.length = 1 then { c with crs := c.crs ++ [n.getD 0 0] }
  else if wd = wTm ∧ n.length = 4 then { c with tm := ⟨n.getD 0 0, n.getD 1 0, n.getD 2 0, n.getD 3 0⟩ }
  else c
theorem takeM_not {c : Cf} {s wd rest : List UInt8} {fl : Bool} (hc : Lib.cut s [32] = (wd, rest, fl)) (h : wd ≠ wRt) : takeM c s = takeN c wd (numsOf rest) := by
  unfold takeM takeN
  rw [hc]
  exact if_neg h
theorem takeM_rt {c : Cf} {s rest : List UInt8} {fl : Bool} (hc : Lib.cut s [32] = (wRt, rest, fl)) : takeM c s = takeRt rest c := by
  unfold takeM
  rw [hc]
  exact if_pos rfl
theorem len1 {l : List Int} (h : l.length = 1) : ∃ a, l = [a] := by
  match l, h with
  | [a], _ => exact ⟨a, rfl⟩
theorem len2 {l : List Int} (h : l.length = 2) : ∃ a b, l = [a, b] := by
  match l, h with
  | [a, b], _ => exact ⟨a, b, rfl⟩
theorem len3 {l : List Int} (h : l.length = 3) : ∃ a b c, l = [a, b, c] := by
  match l, h with
  | [a, b, c], _ => exact ⟨a, b, c, rfl⟩
theorem len4 {l : List Int} (h : l.length = 4) : ∃ a b c d, l = [a, b, c, d] := by
  match l, h with
  | [a, b, c, d], _ => exact ⟨a, b, c, d, rfl⟩

set_option maxRecDepth 100000 in
set_option maxHeartbeats 16000000 in
theorem take_any (q pb : Nat) (C : Cm) (s : List UInt8) (w : World) (h : PlanAt q pb C w) (hz : Sz 268435456 C.cf) (hs : s.length ≤ 268435456) (hR : Rds w) :
    Calls Tryz.prog 72 #[.pointer (some ⟨pb, 0, none⟩), .string ⟨s.toArray⟩] w fun e w' => e = .returned (.tuple #[]) ∧ ∃ C' : Cm, C'.cf = takeM C.cf s ∧ PlanAt q pb C' w' ∧ Fr (fun k => k = pb ∨ q ≤ k) w w' := by
  have KC := cut_any s [32] w (by omega) hR
  obtain ⟨hwl, hrl⟩ := cut_len s [32]
  go_enter Tryz.func72, Tryz.ntmps72
  go_wp2_with fail
  refine KC.mono ?_
  clear KC
  rintro _ w1 ⟨rfl, f1⟩
  have hp1 := h.fr f1
  have hR1 := hR.fr f1
  generalize hc : Lib.cut s [32] = cc at *
  obtain ⟨wd, rest, fl⟩ := cc
  dsimp only at hwl hrl ⊢
  by_cases hwRt : wd = [114, 111, 117, 116, 101]
  · subst hwRt
    have KT := takeRoute_any q pb C rest w1 hp1 hz (by omega) hR1
    go_wp2_with fail
    refine KT.mono ?_
    rintro _ w3 ⟨rfl, C', hC', hP', hF'⟩
    go_wp2_with fail
    refine bodyPost_ret (results_none rfl _ _ _) rfl ?_
    refine ⟨rfl, C', ?_, hP', Fr.trans (f1.mono fun _ _ h => h.elim) hF' fun _ _ h => h⟩
    rw [hC']
    exact (takeM_rt hc).symm
  have ewRt : (wd == [114, 111, 117, 116, 101]) = false := by simpa using hwRt
  have KN := numbers_any rest w1 (by omega) hR1.tabs hR1.errs
  go_wp2_with fail
  refine KN.mono ?_
  clear KN
  rintro _ w2 ⟨A, c, rfl, hown, f2⟩
  have hp2 := hp1.fr f2
  have hfw := fr_nil f1 f2
  have hcn : (fieldsM rest).map numOf = numsOf rest := rfl
  rw [hcn] at hown ⊢
  have htm := takeM_not (c := C.cf) hc hwRt
  generalize numsOf rest = L at *
  clear hcn hc
  obtain ⟨_, _, eA, hlc, hcm, hA, _⟩ := wide_form hown
  injection eA with eA1 _ eA2
  subst eA1 eA2
  by_cases hwSec : wd = [115, 101, 99, 116, 105, 111, 110]
  · subst hwSec
    have ewRt : ((([115, 101, 99, 116, 105, 111, 110] : List UInt8) == [114, 111, 117, 116, 101])) = false := by decide
    have ewSec : ((([115, 101, 99, 116, 105, 111, 110] : List UInt8) == [115, 101, 99, 116, 105, 111, 110])) = true := by decide
    have ewJo : ((([115, 101, 99, 116, 105, 111, 110] : List UInt8) == [106, 111, 105, 110, 116])) = false := by decide
    have ewSg : ((([115, 101, 99, 116, 105, 111, 110] : List UInt8) == [115, 105, 103, 110, 97, 108])) = false := by decide
    have ewCr : ((([115, 101, 99, 116, 105, 111, 110] : List UInt8) == [99, 114, 111, 115, 115, 105, 110, 103])) = false := by decide
    have ewTm : ((([115, 101, 99, 116, 105, 111, 110] : List UInt8) == [116, 105, 109, 105, 110, 103])) = false := by decide
    by_cases hlen : L.length = 3
    · obtain ⟨x0, x1, x2, rfl⟩ := len3 hlen
      clear hlen
      have hzz : C.l.length ≤ 268435456 := hz.secs

      unfold takeN at htm
      rw [if_pos ⟨rfl, rfl⟩] at htm
      obtain ⟨g, rfl, hgw⟩ := hA (by simp)
      have hg1 : w1.heap.size ≤ g := (World.ownsRow.lt hown g rfl).1
      have hpg : (pb : Nat) ≠ g := by have := h.lt; have := hp1.hq; omega
      have c0 : w2.cell? ⟨g, 0, none⟩ = some (.int .i64 x0) := by simpa using rd_getD (wide_rd hown) 0 (by simp)
      have c1 : w2.cell? ⟨g, 1, none⟩ = some (.int .i64 x1) := by simpa using rd_getD (wide_rd hown) 1 (by simp)
      have c2 : w2.cell? ⟨g, 2, none⟩ = some (.int .i64 x2) := by simpa using rd_getD (wide_rd hown) 2 (by simp)
      obtain ⟨i0, hi0, hz0, hz1, hz2⟩ := info_parts Tryz.infoSec
      have hpa : PlanAt q pb C ((w2.drew).alloc (.cells #[.int .i64 x0, .int .i64 x1, .int .i64 x2] 62)) := hp2.fr (((Fr.refl _ w2).drew).alloc _)
      have hfa : Fr (fun _ => False) w2 ((w2.drew).alloc (.cells #[.int .i64 x0, .int .i64 x1, .int .i64 x2] 62)) := ((Fr.refl _ w2).drew).alloc _
      have hrow := hpa.o1
      have hlit : Rd ((w2.drew).alloc (.cells #[.int .i64 x0, .int .i64 x1, .int .i64 x2] 62)) (some ⟨w2.heap.size, 0, none⟩) [.int .i64 x0, .int .i64 x1, .int .i64 x2] := lit_rd_at rfl _ _
      have h1c : ∀ u ∈ ([.int .i64 x0, .int .i64 x1, .int .i64 x2] : List Value), u.oneCell' = true := by
        intro u hu
        simp only [List.mem_cons, List.not_mem_nil, or_false] at hu
        rcases hu with rfl | rfl | rfl <;> rfl
      have hqa : q ≤ ((w2.drew).alloc (.cells #[.int .i64 x0, .int .i64 x1, .int .i64 x2] 62)).heap.size := hpa.hq
      have hzl : C.l.length ≤ 268435456 := hzz
      have hgn : (Value.slice C.A1 C.l.length C.c1).ownBlock ≠ some g := fun e => by
        have := wide_lt hp1.o1 g e
        omega
      have p0 := hp2.here.cell 0
      have p0a := hpa.here.cell 0
      have p0b := (hp2.here.alloc (.cells #[.int .i64 x0, .int .i64 x1, .int .i64 x2] 62)).cell 0
      unfold Cm.arr at p0 p0a p0b
      simp at p0 p0a p0b
      have hSf : ∀ Wx, Fr (fun k => k ≠ g) w2 Wx → Wx.cell? ⟨g, 0, none⟩ = some (.int .i64 x0) ∧ Wx.cell? ⟨g, 1, none⟩ = some (.int .i64 x1) ∧ Wx.cell? ⟨g, 2, none⟩ = some (.int .i64 x2) := fun Wx f => by
        have fc : ∀ j, Wx.cell? ⟨g, j, none⟩ = w2.cell? ⟨g, j, none⟩ := fun j => f.cell (p := ⟨g, j, none⟩) hgw (by simp)
        simp only [fc]
        exact ⟨c0, c1, c2⟩
      go_upto_region 5 with (fail)
      refine wp_region_held_drew (S := fun Wx => Wx.cell? ⟨g, 0, none⟩ = some (.int .i64 x0) ∧ Wx.cell? ⟨g, 1, none⟩ = some (.int .i64 x1) ∧ Wx.cell? ⟨g, 2, none⟩ = some (.int .i64 x2)) (by kernel_rfl) (hSf _ ((Fr.refl _ w2).drew)) (fun hHeld => ?_)
      refine wpAnyH_take (i := 0) (v := ?_) rfl (by kernel_rfl) (by kernel_rfl) (by kernel_rfl) (fun _ _ _ h => h) (Or.inl ⟨by rfl, ?_⟩) (by assumption) ?_
      rotate_left
      · intro Wx hSw
        try dsimp only at hSw
        go_simp
        try with_reducible rfl
      try simp only [Act.put]
      refine wpAnyH_take (i := 1) (v := ?_) rfl (by kernel_rfl) (by kernel_rfl) (by kernel_rfl) (fun _ _ _ h => h) (Or.inl ⟨by rfl, ?_⟩) (by assumption) ?_
      rotate_left
      · intro Wx hSw
        try dsimp only at hSw
        go_simp
        try with_reducible rfl
      try simp only [Act.put]
      refine wpAnyH_take (i := 2) (v := ?_) rfl (by kernel_rfl) (by kernel_rfl) (by kernel_rfl) (fun _ _ _ h => h) (Or.inl ⟨by rfl, ?_⟩) (by assumption) ?_
      rotate_left
      · intro Wx hSw
        try dsimp only at hSw
        go_simp
        try with_reducible rfl
      try simp only [Act.put]
      refine wpAnyH_take (i := 3) (v := ?_) rfl (by kernel_rfl) (by kernel_rfl) (by kernel_rfl) (fun _ _ _ h => h) (Or.inl ⟨by rfl, ?_⟩) (by assumption) ?_
      rotate_left
      · intro Wx hSw
        try dsimp only at hSw
        go_simp
        try with_reducible rfl
      try simp only [Act.put]
      refine wpAnyH_take (i := 4) (v := ?_) rfl (by kernel_rfl) (by kernel_rfl) (by kernel_rfl) (fun _ _ _ h => h) (Or.inl ⟨by rfl, ?_⟩) (by assumption) ?_
      rotate_left
      · intro Wx hSw
        try dsimp only at hSw
        go_simp
        try with_reducible rfl
      try simp only [Act.put]
      refine wpAnyH_take (i := 6) (v := ?_) rfl (by kernel_rfl) (by kernel_rfl) (by kernel_rfl) (fun _ _ _ h => h) (Or.inl ⟨by rfl, ?_⟩) (by assumption) ?_
      rotate_left
      · intro Wx hSw
        try dsimp only at hSw
        go_simp
        try with_reducible rfl
      try simp only [Act.put]
      refine wpAnyH_take (i := 7) (v := ?_) rfl (by kernel_rfl) (by kernel_rfl) (by kernel_rfl) (fun _ _ _ h => h) (Or.inl ⟨by rfl, ?_⟩) (by assumption) ?_
      rotate_left
      · intro Wx hSw
        try dsimp only at hSw
        go_simp
        try with_reducible rfl
      try simp only [Act.put]
      refine wpAnyH_take (i := 8) (v := ?_) rfl (by kernel_rfl) (by kernel_rfl) (by kernel_rfl) (fun _ _ _ h => h) (Or.inl ⟨by rfl, ?_⟩) (by assumption) ?_
      rotate_left
      · intro Wx hSw
        try dsimp only at hSw
        go_simp
        try with_reducible rfl
      try simp only [Act.put]
      refine wpAnyH_take (i := 9) (v := ?_) rfl (by kernel_rfl) (by kernel_rfl) (by kernel_rfl) (fun _ _ _ h => h) (Or.inl ⟨by rfl, ?_⟩) (by assumption) ?_
      rotate_left
      · intro Wx hSw
        try dsimp only at hSw
        go_simp
        try with_reducible rfl
      try simp only [Act.put]
      refine wpAnyH_take (i := 10) (v := ?_) rfl (by kernel_rfl) (by kernel_rfl) (by kernel_rfl) (fun _ _ _ h => h) (Or.inl ⟨by rfl, ?_⟩) (by assumption) ?_
      rotate_left
      · intro Wx hSw
        try dsimp only at hSw
        go_simp
        try with_reducible rfl
      try simp only [Act.put]
      refine wpAnyH_take (i := 11) (v := ?_) rfl (by kernel_rfl) (by kernel_rfl) (by kernel_rfl) (fun _ _ _ h => h) (Or.inl ⟨by rfl, ?_⟩) (by assumption) ?_
      rotate_left
      · intro Wx hSw
        try dsimp only at hSw
        go_simp
        try with_reducible rfl
      try simp only [Act.put]
      refine wpAnyH_take (i := 12) (v := ?_) rfl (by kernel_rfl) (by kernel_rfl) (by kernel_rfl) (fun _ _ _ h => h) (Or.inl ⟨by rfl, ?_⟩) (by assumption) ?_
      rotate_left
      · intro Wx hSw
        try dsimp only at hSw
        go_simp
        try with_reducible rfl
      try simp only [Act.put]
      refine wpAnyH_take (i := 13) (v := ?_) rfl (by kernel_rfl) (by kernel_rfl) (by kernel_rfl) (fun _ _ _ h => h) (Or.inl ⟨by rfl, ?_⟩) (by assumption) ?_
      rotate_left
      · intro Wx hSw
        try dsimp only at hSw
        go_simp
        try with_reducible rfl
      try simp only [Act.put]
      refine wpAnyH_take (i := 14) (v := ?_) rfl (by kernel_rfl) (by kernel_rfl) (by kernel_rfl) (fun _ _ _ h => h) (Or.inl ⟨by rfl, ?_⟩) (by assumption) ?_
      rotate_left
      · intro Wx hSw
        try dsimp only at hSw
        go_simp
        try with_reducible rfl
      try simp only [Act.put]
      refine wpAnyH_take (i := 15) (v := ?_) rfl (by kernel_rfl) (by kernel_rfl) (by kernel_rfl) (fun _ _ _ h => h) (Or.inl ⟨by rfl, ?_⟩) (by assumption) ?_
      rotate_left
      · intro Wx hSw
        try dsimp only at hSw
        go_simp
        try with_reducible rfl
      try simp only [Act.put]
      refine wpAnyH_ready (rs := [5, 16]) (by kernel_rfl) (by simp) (AllReadyH.cons rfl (fun K hK => ?_) (AllReadyH.cons rfl (fun K hK => ?_) AllReadyH.nil))
      · have p0d : w2.drew.cell? ⟨pb, 0, none⟩ = some (.slice C.A1 C.l.length C.c1) := p0
        go_simp
        refine hK.out _ _ (hSf _ ((Fr.refl _ w2).drew)) (fun hHeld => ?_)
        clear hK K
        refine wpAnyH_ready (rs := [16]) (by kernel_rfl) (by simp) (AllReadyH.cons rfl (fun K hK => ?_) AllReadyH.nil)
        go_simp
        refine hK.out _ _ (hSf _ (hfa.mono fun _ _ h => h.elim)) (fun hHeld => ?_)
        clear hK K
        refine wpAnyH_ready (rs := [17]) (by kernel_rfl) (by simp) (AllReadyH.cons rfl (fun K hK => ?_) AllReadyH.nil)
        refine step_append_wide _ rfl (.tmp 34) (.tmp 45) 22 rfl q 62 i0 _ 3 24 Tryz.underlying22 hi0 hz0 hz1 hz2 rfl (by decide) (.slice C.A1 C.l.length C.c1) C.l.length _ (by simp [Act.eval]) hrow (some ⟨w2.heap.size, 0, none⟩) 1 1 [.int .i64 x0, .int .i64 x1, .int .i64 x2] rfl (by simp [Act.eval]) hlit h1c (by unfold maxLen; omega) (by omega) hqa ?_
        intro v' w3 hown hg hat
        rw [← cellsS_snoc C.l (⟨x0, x1, x2⟩ : Sec)] at hown
        obtain ⟨A', c', rfl, _, _, _, _⟩ := wide_form hown
        obtain ⟨hP', hF'⟩ := PlanAt.add1 hpa (⟨x0, x1, x2⟩ : Sec) hown hg
        have hF3 : Fr (fun k => k ≠ g) w2 w3 := ((hfa.mono fun _ _ h => h.elim).grown hg fun k hk => .inl (fun e => hgn (e ▸ hk)))
        refine hK.out _ _ (hSf _ hF3) (fun hHeld => ?_)
        clear hK K
        refine wpAnyH_take (i := 18) (v := ?_) rfl (by kernel_rfl) (by kernel_rfl) (by kernel_rfl) (fun _ _ _ h => h) (Or.inl ⟨by rfl, ?_⟩) (by assumption) ?_
        rotate_left
        · intro Wx hSw
          try dsimp only at hSw
          go_simp
          try with_reducible rfl
        try simp only [Act.put]
        refine wpAnyH_take (i := 19) (v := ?_) rfl (by kernel_rfl) (by kernel_rfl) (by kernel_rfl) (fun _ _ _ h => h) (Or.inl ⟨by rfl, ?_⟩) (by assumption) ?_
        rotate_left
        · intro Wx hSw
          try dsimp only at hSw
          go_simp
          try with_reducible rfl
        try simp only [Act.put]
        refine wpAnyH_take (i := 20) (v := ?_) rfl (by kernel_rfl) (by kernel_rfl) (by kernel_rfl) (fun _ _ _ h => h) (Or.inl ⟨by rfl, ?_⟩) (by assumption) ?_
        rotate_left
        · intro Wx hSw
          try dsimp only at hSw
          go_simp
          try with_reducible rfl
        try simp only [Act.put]
        refine wpAnyH_ready (rs := [21]) (by kernel_rfl) (by simp) (AllReadyH.cons rfl (fun K hK => ?_) AllReadyH.nil)
        have hcs : w3.cell? ⟨pb, 0, none⟩ = some (.slice C.A1 C.l.length C.c1) := ((hpa.here.fr ((Fr.refl _ _).grown hg fun k hk => .inl hk) (wide_is_ne hpa.o1 hpa.here (by decide))).cell 0).trans rfl
        have hcf : w3.frozen? ⟨pb, 0, none⟩ = false := (hpa.here.fr ((Fr.refl _ _).grown hg fun k hk => .inl hk) (wide_is_ne hpa.o1 hpa.here (by decide))).frozen 0
        go_simp
        refine hK.out _ _ (hSf _ (hF3.setCell (p := ⟨pb, 0, none⟩) (.inl hpg) _)) (fun hHeld => ?_)
        clear hK K
        refine wpAnyH_done (by kernel_rfl) ?_ _
        go_wp2_with fail
        go_end0
        refine ⟨rfl, _, ?_, hP', (Fr.trans ((fr_nil hfw hfa).mono fun _ _ h => h.elim) hF' fun _ _ h => h)⟩
        show (_ : Cf) = _
        rw [htm]
        rfl
      · go_simp
        refine hK.out _ _ (hSf _ (hfa.mono fun _ _ h => h.elim)) (fun hHeld => ?_)
        clear hK K
        refine wpAnyH_ready (rs := [5]) (by kernel_rfl) (by simp) (AllReadyH.cons rfl (fun K hK => ?_) AllReadyH.nil)
        go_simp
        refine hK.out _ _ (hSf _ (hfa.mono fun _ _ h => h.elim)) (fun hHeld => ?_)
        clear hK K
        refine wpAnyH_ready (rs := [17]) (by kernel_rfl) (by simp) (AllReadyH.cons rfl (fun K hK => ?_) AllReadyH.nil)
        refine step_append_wide _ rfl (.tmp 34) (.tmp 45) 22 rfl q 62 i0 _ 3 24 Tryz.underlying22 hi0 hz0 hz1 hz2 rfl (by decide) (.slice C.A1 C.l.length C.c1) C.l.length _ (by simp [Act.eval]) hrow (some ⟨w2.heap.size, 0, none⟩) 1 1 [.int .i64 x0, .int .i64 x1, .int .i64 x2] rfl (by simp [Act.eval]) hlit h1c (by unfold maxLen; omega) (by omega) hqa ?_
        intro v' w3 hown hg hat
        rw [← cellsS_snoc C.l (⟨x0, x1, x2⟩ : Sec)] at hown
        obtain ⟨A', c', rfl, _, _, _, _⟩ := wide_form hown
        obtain ⟨hP', hF'⟩ := PlanAt.add1 hpa (⟨x0, x1, x2⟩ : Sec) hown hg
        have hF3 : Fr (fun k => k ≠ g) w2 w3 := ((hfa.mono fun _ _ h => h.elim).grown hg fun k hk => .inl (fun e => hgn (e ▸ hk)))
        refine hK.out _ _ (hSf _ hF3) (fun hHeld => ?_)
        clear hK K
        refine wpAnyH_take (i := 18) (v := ?_) rfl (by kernel_rfl) (by kernel_rfl) (by kernel_rfl) (fun _ _ _ h => h) (Or.inl ⟨by rfl, ?_⟩) (by assumption) ?_
        rotate_left
        · intro Wx hSw
          try dsimp only at hSw
          go_simp
          try with_reducible rfl
        try simp only [Act.put]
        refine wpAnyH_take (i := 19) (v := ?_) rfl (by kernel_rfl) (by kernel_rfl) (by kernel_rfl) (fun _ _ _ h => h) (Or.inl ⟨by rfl, ?_⟩) (by assumption) ?_
        rotate_left
        · intro Wx hSw
          try dsimp only at hSw
          go_simp
          try with_reducible rfl
        try simp only [Act.put]
        refine wpAnyH_take (i := 20) (v := ?_) rfl (by kernel_rfl) (by kernel_rfl) (by kernel_rfl) (fun _ _ _ h => h) (Or.inl ⟨by rfl, ?_⟩) (by assumption) ?_
        rotate_left
        · intro Wx hSw
          try dsimp only at hSw
          go_simp
          try with_reducible rfl
        try simp only [Act.put]
        refine wpAnyH_ready (rs := [21]) (by kernel_rfl) (by simp) (AllReadyH.cons rfl (fun K hK => ?_) AllReadyH.nil)
        have hcs : w3.cell? ⟨pb, 0, none⟩ = some (.slice C.A1 C.l.length C.c1) := ((hpa.here.fr ((Fr.refl _ _).grown hg fun k hk => .inl hk) (wide_is_ne hpa.o1 hpa.here (by decide))).cell 0).trans rfl
        have hcf : w3.frozen? ⟨pb, 0, none⟩ = false := (hpa.here.fr ((Fr.refl _ _).grown hg fun k hk => .inl hk) (wide_is_ne hpa.o1 hpa.here (by decide))).frozen 0
        go_simp
        refine hK.out _ _ (hSf _ (hF3.setCell (p := ⟨pb, 0, none⟩) (.inl hpg) _)) (fun hHeld => ?_)
        clear hK K
        refine wpAnyH_done (by kernel_rfl) ?_ _
        go_wp2_with fail
        go_end0
        refine ⟨rfl, _, ?_, hP', (Fr.trans ((fr_nil hfw hfa).mono fun _ _ h => h.elim) hF' fun _ _ h => h)⟩
        show (_ : Cf) = _
        rw [htm]
        rfl
    · have hlb : ((L.length : Int) == 3) = false := by simp; omega
      have htm : takeM C.cf s = C.cf := by
        rw [htm]
        unfold takeN
        rw [if_neg (fun h => hlen h.2), if_neg (fun h => absurd h.1 (by decide)), if_neg (fun h => absurd h.1 (by decide)), if_neg (fun h => absurd h.1 (by decide)), if_neg (fun h => absurd h.1 (by decide))]
      go_wp2_with fail
      go_end0
      exact ⟨rfl, C, htm.symm, hp2, hfw.mono fun _ _ h => h.elim⟩
  have ewSec : (wd == [115, 101, 99, 116, 105, 111, 110]) = false := by simpa using hwSec
  by_cases hwJo : wd = [106, 111, 105, 110, 116]
  · subst hwJo
    have ewRt : ((([106, 111, 105, 110, 116] : List UInt8) == [114, 111, 117, 116, 101])) = false := by decide
    have ewSec : ((([106, 111, 105, 110, 116] : List UInt8) == [115, 101, 99, 116, 105, 111, 110])) = false := by decide
    have ewJo : ((([106, 111, 105, 110, 116] : List UInt8) == [106, 111, 105, 110, 116])) = true := by decide
    have ewSg : ((([106, 111, 105, 110, 116] : List UInt8) == [115, 105, 103, 110, 97, 108])) = false := by decide
    have ewCr : ((([106, 111, 105, 110, 116] : List UInt8) == [99, 114, 111, 115, 115, 105, 110, 103])) = false := by decide
    have ewTm : ((([106, 111, 105, 110, 116] : List UInt8) == [116, 105, 109, 105, 110, 103])) = false := by decide
    by_cases hlen : L.length = 4
    · obtain ⟨x0, x1, x2, x3, rfl⟩ := len4 hlen
      clear hlen
      have hzz : C.js.length ≤ 268435456 := hz.jos

      unfold takeN at htm
      rw [if_neg (fun h => absurd h.1 (by decide)), if_pos ⟨rfl, rfl⟩] at htm
      obtain ⟨g, rfl, hgw⟩ := hA (by simp)
      have hg1 : w1.heap.size ≤ g := (World.ownsRow.lt hown g rfl).1
      have hpg : (pb : Nat) ≠ g := by have := h.lt; have := hp1.hq; omega
      have c0 : w2.cell? ⟨g, 0, none⟩ = some (.int .i64 x0) := by simpa using rd_getD (wide_rd hown) 0 (by simp)
      have c1 : w2.cell? ⟨g, 1, none⟩ = some (.int .i64 x1) := by simpa using rd_getD (wide_rd hown) 1 (by simp)
      have c2 : w2.cell? ⟨g, 2, none⟩ = some (.int .i64 x2) := by simpa using rd_getD (wide_rd hown) 2 (by simp)
      have c3 : w2.cell? ⟨g, 3, none⟩ = some (.int .i64 x3) := by simpa using rd_getD (wide_rd hown) 3 (by simp)
      obtain ⟨i0, hi0, hz0, hz1, hz2⟩ := info_parts Tryz.infoJo
      have hpa : PlanAt q pb C ((w2.drew).alloc (.cells #[.int .i64 x0, .int .i64 x1, .int .i64 x2, .int .i64 x3] 69)) := hp2.fr (((Fr.refl _ w2).drew).alloc _)
      have hfa : Fr (fun _ => False) w2 ((w2.drew).alloc (.cells #[.int .i64 x0, .int .i64 x1, .int .i64 x2, .int .i64 x3] 69)) := ((Fr.refl _ w2).drew).alloc _
      have hrow := hpa.o2
      have hlit : Rd ((w2.drew).alloc (.cells #[.int .i64 x0, .int .i64 x1, .int .i64 x2, .int .i64 x3] 69)) (some ⟨w2.heap.size, 0, none⟩) [.int .i64 x0, .int .i64 x1, .int .i64 x2, .int .i64 x3] := lit_rd_at rfl _ _
      have h1c : ∀ u ∈ ([.int .i64 x0, .int .i64 x1, .int .i64 x2, .int .i64 x3] : List Value), u.oneCell' = true := by
        intro u hu
        simp only [List.mem_cons, List.not_mem_nil, or_false] at hu
        rcases hu with rfl | rfl | rfl | rfl <;> rfl
      have hqa : q ≤ ((w2.drew).alloc (.cells #[.int .i64 x0, .int .i64 x1, .int .i64 x2, .int .i64 x3] 69)).heap.size := hpa.hq
      have hzl : C.js.length ≤ 268435456 := hzz
      have hgn : (Value.slice C.A2 C.js.length C.c2).ownBlock ≠ some g := fun e => by
        have := wide_lt hp1.o2 g e
        omega
      have p0 := hp2.here.cell 1
      have p0a := hpa.here.cell 1
      have p0b := (hp2.here.alloc (.cells #[.int .i64 x0, .int .i64 x1, .int .i64 x2, .int .i64 x3] 69)).cell 1
      unfold Cm.arr at p0 p0a p0b
      simp at p0 p0a p0b
      have hSf : ∀ Wx, Fr (fun k => k ≠ g) w2 Wx → Wx.cell? ⟨g, 0, none⟩ = some (.int .i64 x0) ∧ Wx.cell? ⟨g, 1, none⟩ = some (.int .i64 x1) ∧ Wx.cell? ⟨g, 2, none⟩ = some (.int .i64 x2) ∧ Wx.cell? ⟨g, 3, none⟩ = some (.int .i64 x3) := fun Wx f => by
        have fc : ∀ j, Wx.cell? ⟨g, j, none⟩ = w2.cell? ⟨g, j, none⟩ := fun j => f.cell (p := ⟨g, j, none⟩) hgw (by simp)
        simp only [fc]
        exact ⟨c0, c1, c2, c3⟩
      go_upto_region 7 with (fail)
      refine wp_region_held_drew (S := fun Wx => Wx.cell? ⟨g, 0, none⟩ = some (.int .i64 x0) ∧ Wx.cell? ⟨g, 1, none⟩ = some (.int .i64 x1) ∧ Wx.cell? ⟨g, 2, none⟩ = some (.int .i64 x2) ∧ Wx.cell? ⟨g, 3, none⟩ = some (.int .i64 x3)) (by kernel_rfl) (hSf _ ((Fr.refl _ w2).drew)) (fun hHeld => ?_)
      refine wpAnyH_take (i := 0) (v := ?_) rfl (by kernel_rfl) (by kernel_rfl) (by kernel_rfl) (fun _ _ _ h => h) (Or.inl ⟨by rfl, ?_⟩) (by assumption) ?_
      rotate_left
      · intro Wx hSw
        try dsimp only at hSw
        go_simp
        try with_reducible rfl
      try simp only [Act.put]
      refine wpAnyH_take (i := 1) (v := ?_) rfl (by kernel_rfl) (by kernel_rfl) (by kernel_rfl) (fun _ _ _ h => h) (Or.inl ⟨by rfl, ?_⟩) (by assumption) ?_
      rotate_left
      · intro Wx hSw
        try dsimp only at hSw
        go_simp
        try with_reducible rfl
      try simp only [Act.put]
      refine wpAnyH_take (i := 2) (v := ?_) rfl (by kernel_rfl) (by kernel_rfl) (by kernel_rfl) (fun _ _ _ h => h) (Or.inl ⟨by rfl, ?_⟩) (by assumption) ?_
      rotate_left
      · intro Wx hSw
        try dsimp only at hSw
        go_simp
        try with_reducible rfl
      try simp only [Act.put]
      refine wpAnyH_take (i := 3) (v := ?_) rfl (by kernel_rfl) (by kernel_rfl) (by kernel_rfl) (fun _ _ _ h => h) (Or.inl ⟨by rfl, ?_⟩) (by assumption) ?_
      rotate_left
      · intro Wx hSw
        try dsimp only at hSw
        go_simp
        try with_reducible rfl
      try simp only [Act.put]
      refine wpAnyH_take (i := 4) (v := ?_) rfl (by kernel_rfl) (by kernel_rfl) (by kernel_rfl) (fun _ _ _ h => h) (Or.inl ⟨by rfl, ?_⟩) (by assumption) ?_
      rotate_left
      · intro Wx hSw
        try dsimp only at hSw
        go_simp
        try with_reducible rfl
      try simp only [Act.put]
      refine wpAnyH_take (i := 6) (v := ?_) rfl (by kernel_rfl) (by kernel_rfl) (by kernel_rfl) (fun _ _ _ h => h) (Or.inl ⟨by rfl, ?_⟩) (by assumption) ?_
      rotate_left
      · intro Wx hSw
        try dsimp only at hSw
        go_simp
        try with_reducible rfl
      try simp only [Act.put]
      refine wpAnyH_take (i := 7) (v := ?_) rfl (by kernel_rfl) (by kernel_rfl) (by kernel_rfl) (fun _ _ _ h => h) (Or.inl ⟨by rfl, ?_⟩) (by assumption) ?_
      rotate_left
      · intro Wx hSw
        try dsimp only at hSw
        go_simp
        try with_reducible rfl
      try simp only [Act.put]
      refine wpAnyH_take (i := 8) (v := ?_) rfl (by kernel_rfl) (by kernel_rfl) (by kernel_rfl) (fun _ _ _ h => h) (Or.inl ⟨by rfl, ?_⟩) (by assumption) ?_
      rotate_left
      · intro Wx hSw
        try dsimp only at hSw
        go_simp
        try with_reducible rfl
      try simp only [Act.put]
      refine wpAnyH_take (i := 9) (v := ?_) rfl (by kernel_rfl) (by kernel_rfl) (by kernel_rfl) (fun _ _ _ h => h) (Or.inl ⟨by rfl, ?_⟩) (by assumption) ?_
      rotate_left
      · intro Wx hSw
        try dsimp only at hSw
        go_simp
        try with_reducible rfl
      try simp only [Act.put]
      refine wpAnyH_take (i := 10) (v := ?_) rfl (by kernel_rfl) (by kernel_rfl) (by kernel_rfl) (fun _ _ _ h => h) (Or.inl ⟨by rfl, ?_⟩) (by assumption) ?_
      rotate_left
      · intro Wx hSw
        try dsimp only at hSw
        go_simp
        try with_reducible rfl
      try simp only [Act.put]
      refine wpAnyH_take (i := 11) (v := ?_) rfl (by kernel_rfl) (by kernel_rfl) (by kernel_rfl) (fun _ _ _ h => h) (Or.inl ⟨by rfl, ?_⟩) (by assumption) ?_
      rotate_left
      · intro Wx hSw
        try dsimp only at hSw
        go_simp
        try with_reducible rfl
      try simp only [Act.put]
      refine wpAnyH_take (i := 12) (v := ?_) rfl (by kernel_rfl) (by kernel_rfl) (by kernel_rfl) (fun _ _ _ h => h) (Or.inl ⟨by rfl, ?_⟩) (by assumption) ?_
      rotate_left
      · intro Wx hSw
        try dsimp only at hSw
        go_simp
        try with_reducible rfl
      try simp only [Act.put]
      refine wpAnyH_take (i := 13) (v := ?_) rfl (by kernel_rfl) (by kernel_rfl) (by kernel_rfl) (fun _ _ _ h => h) (Or.inl ⟨by rfl, ?_⟩) (by assumption) ?_
      rotate_left
      · intro Wx hSw
        try dsimp only at hSw
        go_simp
        try with_reducible rfl
      try simp only [Act.put]
      refine wpAnyH_take (i := 14) (v := ?_) rfl (by kernel_rfl) (by kernel_rfl) (by kernel_rfl) (fun _ _ _ h => h) (Or.inl ⟨by rfl, ?_⟩) (by assumption) ?_
      rotate_left
      · intro Wx hSw
        try dsimp only at hSw
        go_simp
        try with_reducible rfl
      try simp only [Act.put]
      refine wpAnyH_take (i := 15) (v := ?_) rfl (by kernel_rfl) (by kernel_rfl) (by kernel_rfl) (fun _ _ _ h => h) (Or.inl ⟨by rfl, ?_⟩) (by assumption) ?_
      rotate_left
      · intro Wx hSw
        try dsimp only at hSw
        go_simp
        try with_reducible rfl
      try simp only [Act.put]
      refine wpAnyH_take (i := 16) (v := ?_) rfl (by kernel_rfl) (by kernel_rfl) (by kernel_rfl) (fun _ _ _ h => h) (Or.inl ⟨by rfl, ?_⟩) (by assumption) ?_
      rotate_left
      · intro Wx hSw
        try dsimp only at hSw
        go_simp
        try with_reducible rfl
      try simp only [Act.put]
      refine wpAnyH_take (i := 17) (v := ?_) rfl (by kernel_rfl) (by kernel_rfl) (by kernel_rfl) (fun _ _ _ h => h) (Or.inl ⟨by rfl, ?_⟩) (by assumption) ?_
      rotate_left
      · intro Wx hSw
        try dsimp only at hSw
        go_simp
        try with_reducible rfl
      try simp only [Act.put]
      refine wpAnyH_take (i := 18) (v := ?_) rfl (by kernel_rfl) (by kernel_rfl) (by kernel_rfl) (fun _ _ _ h => h) (Or.inl ⟨by rfl, ?_⟩) (by assumption) ?_
      rotate_left
      · intro Wx hSw
        try dsimp only at hSw
        go_simp
        try with_reducible rfl
      try simp only [Act.put]
      refine wpAnyH_ready (rs := [5, 19]) (by kernel_rfl) (by simp) (AllReadyH.cons rfl (fun K hK => ?_) (AllReadyH.cons rfl (fun K hK => ?_) AllReadyH.nil))
      · have p0d : w2.drew.cell? ⟨pb, 1, none⟩ = some (.slice C.A2 C.js.length C.c2) := p0
        go_simp
        refine hK.out _ _ (hSf _ ((Fr.refl _ w2).drew)) (fun hHeld => ?_)
        clear hK K
        refine wpAnyH_ready (rs := [19]) (by kernel_rfl) (by simp) (AllReadyH.cons rfl (fun K hK => ?_) AllReadyH.nil)
        go_simp
        refine hK.out _ _ (hSf _ (hfa.mono fun _ _ h => h.elim)) (fun hHeld => ?_)
        clear hK K
        refine wpAnyH_ready (rs := [20]) (by kernel_rfl) (by simp) (AllReadyH.cons rfl (fun K hK => ?_) AllReadyH.nil)
        refine step_append_wide _ rfl (.tmp 63) (.tmp 77) 23 rfl q 69 i0 _ 4 32 Tryz.underlying23 hi0 hz0 hz1 hz2 rfl (by decide) (.slice C.A2 C.js.length C.c2) C.js.length _ (by simp [Act.eval]) hrow (some ⟨w2.heap.size, 0, none⟩) 1 1 [.int .i64 x0, .int .i64 x1, .int .i64 x2, .int .i64 x3] rfl (by simp [Act.eval]) hlit h1c (by unfold maxLen; omega) (by omega) hqa ?_
        intro v' w3 hown hg hat
        rw [← cellsJ_snoc C.js (⟨x0, x1, x2, x3⟩ : Jo)] at hown
        obtain ⟨A', c', rfl, _, _, _, _⟩ := wide_form hown
        obtain ⟨hP', hF'⟩ := PlanAt.add2 hpa (⟨x0, x1, x2, x3⟩ : Jo) hown hg
        have hF3 : Fr (fun k => k ≠ g) w2 w3 := ((hfa.mono fun _ _ h => h.elim).grown hg fun k hk => .inl (fun e => hgn (e ▸ hk)))
        refine hK.out _ _ (hSf _ hF3) (fun hHeld => ?_)
        clear hK K
        refine wpAnyH_take (i := 21) (v := ?_) rfl (by kernel_rfl) (by kernel_rfl) (by kernel_rfl) (fun _ _ _ h => h) (Or.inl ⟨by rfl, ?_⟩) (by assumption) ?_
        rotate_left
        · intro Wx hSw
          try dsimp only at hSw
          go_simp
          try with_reducible rfl
        try simp only [Act.put]
        refine wpAnyH_take (i := 22) (v := ?_) rfl (by kernel_rfl) (by kernel_rfl) (by kernel_rfl) (fun _ _ _ h => h) (Or.inl ⟨by rfl, ?_⟩) (by assumption) ?_
        rotate_left
        · intro Wx hSw
          try dsimp only at hSw
          go_simp
          try with_reducible rfl
        try simp only [Act.put]
        refine wpAnyH_take (i := 23) (v := ?_) rfl (by kernel_rfl) (by kernel_rfl) (by kernel_rfl) (fun _ _ _ h => h) (Or.inl ⟨by rfl, ?_⟩) (by assumption) ?_
        rotate_left
        · intro Wx hSw
          try dsimp only at hSw
          go_simp
          try with_reducible rfl
        try simp only [Act.put]
        refine wpAnyH_ready (rs := [24]) (by kernel_rfl) (by simp) (AllReadyH.cons rfl (fun K hK => ?_) AllReadyH.nil)
        have hcs : w3.cell? ⟨pb, 1, none⟩ = some (.slice C.A2 C.js.length C.c2) := ((hpa.here.fr ((Fr.refl _ _).grown hg fun k hk => .inl hk) (wide_is_ne hpa.o2 hpa.here (by decide))).cell 1).trans rfl
        have hcf : w3.frozen? ⟨pb, 1, none⟩ = false := (hpa.here.fr ((Fr.refl _ _).grown hg fun k hk => .inl hk) (wide_is_ne hpa.o2 hpa.here (by decide))).frozen 1
        go_simp
        refine hK.out _ _ (hSf _ (hF3.setCell (p := ⟨pb, 1, none⟩) (.inl hpg) _)) (fun hHeld => ?_)
        clear hK K
        refine wpAnyH_done (by kernel_rfl) ?_ _
        go_wp2_with fail
        go_end0
        refine ⟨rfl, _, ?_, hP', (Fr.trans ((fr_nil hfw hfa).mono fun _ _ h => h.elim) hF' fun _ _ h => h)⟩
        show (_ : Cf) = _
        rw [htm]
        rfl
      · go_simp
        refine hK.out _ _ (hSf _ (hfa.mono fun _ _ h => h.elim)) (fun hHeld => ?_)
        clear hK K
        refine wpAnyH_ready (rs := [5]) (by kernel_rfl) (by simp) (AllReadyH.cons rfl (fun K hK => ?_) AllReadyH.nil)
        go_simp
        refine hK.out _ _ (hSf _ (hfa.mono fun _ _ h => h.elim)) (fun hHeld => ?_)
        clear hK K
        refine wpAnyH_ready (rs := [20]) (by kernel_rfl) (by simp) (AllReadyH.cons rfl (fun K hK => ?_) AllReadyH.nil)
        refine step_append_wide _ rfl (.tmp 63) (.tmp 77) 23 rfl q 69 i0 _ 4 32 Tryz.underlying23 hi0 hz0 hz1 hz2 rfl (by decide) (.slice C.A2 C.js.length C.c2) C.js.length _ (by simp [Act.eval]) hrow (some ⟨w2.heap.size, 0, none⟩) 1 1 [.int .i64 x0, .int .i64 x1, .int .i64 x2, .int .i64 x3] rfl (by simp [Act.eval]) hlit h1c (by unfold maxLen; omega) (by omega) hqa ?_
        intro v' w3 hown hg hat
        rw [← cellsJ_snoc C.js (⟨x0, x1, x2, x3⟩ : Jo)] at hown
        obtain ⟨A', c', rfl, _, _, _, _⟩ := wide_form hown
        obtain ⟨hP', hF'⟩ := PlanAt.add2 hpa (⟨x0, x1, x2, x3⟩ : Jo) hown hg
        have hF3 : Fr (fun k => k ≠ g) w2 w3 := ((hfa.mono fun _ _ h => h.elim).grown hg fun k hk => .inl (fun e => hgn (e ▸ hk)))
        refine hK.out _ _ (hSf _ hF3) (fun hHeld => ?_)
        clear hK K
        refine wpAnyH_take (i := 21) (v := ?_) rfl (by kernel_rfl) (by kernel_rfl) (by kernel_rfl) (fun _ _ _ h => h) (Or.inl ⟨by rfl, ?_⟩) (by assumption) ?_
        rotate_left
        · intro Wx hSw
          try dsimp only at hSw
          go_simp
          try with_reducible rfl
        try simp only [Act.put]
        refine wpAnyH_take (i := 22) (v := ?_) rfl (by kernel_rfl) (by kernel_rfl) (by kernel_rfl) (fun _ _ _ h => h) (Or.inl ⟨by rfl, ?_⟩) (by assumption) ?_
        rotate_left
        · intro Wx hSw
          try dsimp only at hSw
          go_simp
          try with_reducible rfl
        try simp only [Act.put]
        refine wpAnyH_take (i := 23) (v := ?_) rfl (by kernel_rfl) (by kernel_rfl) (by kernel_rfl) (fun _ _ _ h => h) (Or.inl ⟨by rfl, ?_⟩) (by assumption) ?_
        rotate_left
        · intro Wx hSw
          try dsimp only at hSw
          go_simp
          try with_reducible rfl
        try simp only [Act.put]
        refine wpAnyH_ready (rs := [24]) (by kernel_rfl) (by simp) (AllReadyH.cons rfl (fun K hK => ?_) AllReadyH.nil)
        have hcs : w3.cell? ⟨pb, 1, none⟩ = some (.slice C.A2 C.js.length C.c2) := ((hpa.here.fr ((Fr.refl _ _).grown hg fun k hk => .inl hk) (wide_is_ne hpa.o2 hpa.here (by decide))).cell 1).trans rfl
        have hcf : w3.frozen? ⟨pb, 1, none⟩ = false := (hpa.here.fr ((Fr.refl _ _).grown hg fun k hk => .inl hk) (wide_is_ne hpa.o2 hpa.here (by decide))).frozen 1
        go_simp
        refine hK.out _ _ (hSf _ (hF3.setCell (p := ⟨pb, 1, none⟩) (.inl hpg) _)) (fun hHeld => ?_)
        clear hK K
        refine wpAnyH_done (by kernel_rfl) ?_ _
        go_wp2_with fail
        go_end0
        refine ⟨rfl, _, ?_, hP', (Fr.trans ((fr_nil hfw hfa).mono fun _ _ h => h.elim) hF' fun _ _ h => h)⟩
        show (_ : Cf) = _
        rw [htm]
        rfl
    · have hlb : ((L.length : Int) == 4) = false := by simp; omega
      have htm : takeM C.cf s = C.cf := by
        rw [htm]
        unfold takeN
        rw [if_neg (fun h => absurd h.1 (by decide)), if_neg (fun h => hlen h.2), if_neg (fun h => absurd h.1 (by decide)), if_neg (fun h => absurd h.1 (by decide)), if_neg (fun h => absurd h.1 (by decide))]
      go_wp2_with fail
      go_end0
      exact ⟨rfl, C, htm.symm, hp2, hfw.mono fun _ _ h => h.elim⟩
  have ewJo : (wd == [106, 111, 105, 110, 116]) = false := by simpa using hwJo
  by_cases hwSg : wd = [115, 105, 103, 110, 97, 108]
  · subst hwSg
    have ewRt : ((([115, 105, 103, 110, 97, 108] : List UInt8) == [114, 111, 117, 116, 101])) = false := by decide
    have ewSec : ((([115, 105, 103, 110, 97, 108] : List UInt8) == [115, 101, 99, 116, 105, 111, 110])) = false := by decide
    have ewJo : ((([115, 105, 103, 110, 97, 108] : List UInt8) == [106, 111, 105, 110, 116])) = false := by decide
    have ewSg : ((([115, 105, 103, 110, 97, 108] : List UInt8) == [115, 105, 103, 110, 97, 108])) = true := by decide
    have ewCr : ((([115, 105, 103, 110, 97, 108] : List UInt8) == [99, 114, 111, 115, 115, 105, 110, 103])) = false := by decide
    have ewTm : ((([115, 105, 103, 110, 97, 108] : List UInt8) == [116, 105, 109, 105, 110, 103])) = false := by decide
    by_cases hlen : L.length = 2
    · obtain ⟨x0, x1, rfl⟩ := len2 hlen
      clear hlen
      have hzz : C.sg.length ≤ 268435456 := hz.sigs

      unfold takeN at htm
      rw [if_neg (fun h => absurd h.1 (by decide)), if_neg (fun h => absurd h.1 (by decide)), if_pos ⟨rfl, rfl⟩] at htm
      obtain ⟨g, rfl, hgw⟩ := hA (by simp)
      have hg1 : w1.heap.size ≤ g := (World.ownsRow.lt hown g rfl).1
      have hpg : (pb : Nat) ≠ g := by have := h.lt; have := hp1.hq; omega
      have c0 : w2.cell? ⟨g, 0, none⟩ = some (.int .i64 x0) := by simpa using rd_getD (wide_rd hown) 0 (by simp)
      have c1 : w2.cell? ⟨g, 1, none⟩ = some (.int .i64 x1) := by simpa using rd_getD (wide_rd hown) 1 (by simp)
      obtain ⟨i0, hi0, hz0, hz1, hz2⟩ := info_parts Tryz.infoSg
      have hpa : PlanAt q pb C ((w2.drew).alloc (.cells #[.int .i64 x0, .int .i64 x1] 56)) := hp2.fr (((Fr.refl _ w2).drew).alloc _)
      have hfa : Fr (fun _ => False) w2 ((w2.drew).alloc (.cells #[.int .i64 x0, .int .i64 x1] 56)) := ((Fr.refl _ w2).drew).alloc _
      have hrow := hpa.o3
      have hlit : Rd ((w2.drew).alloc (.cells #[.int .i64 x0, .int .i64 x1] 56)) (some ⟨w2.heap.size, 0, none⟩) [.int .i64 x0, .int .i64 x1] := lit_rd_at rfl _ _
      have h1c : ∀ u ∈ ([.int .i64 x0, .int .i64 x1] : List Value), u.oneCell' = true := by
        intro u hu
        simp only [List.mem_cons, List.not_mem_nil, or_false] at hu
        rcases hu with rfl | rfl <;> rfl
      have hqa : q ≤ ((w2.drew).alloc (.cells #[.int .i64 x0, .int .i64 x1] 56)).heap.size := hpa.hq
      have hzl : C.sg.length ≤ 268435456 := hzz
      have hgn : (Value.slice C.A3 C.sg.length C.c3).ownBlock ≠ some g := fun e => by
        have := wide_lt hp1.o3 g e
        omega
      have p0 := hp2.here.cell 2
      have p0a := hpa.here.cell 2
      have p0b := (hp2.here.alloc (.cells #[.int .i64 x0, .int .i64 x1] 56)).cell 2
      unfold Cm.arr at p0 p0a p0b
      simp at p0 p0a p0b
      have hSf : ∀ Wx, Fr (fun k => k ≠ g) w2 Wx → Wx.cell? ⟨g, 0, none⟩ = some (.int .i64 x0) ∧ Wx.cell? ⟨g, 1, none⟩ = some (.int .i64 x1) := fun Wx f => by
        have fc : ∀ j, Wx.cell? ⟨g, j, none⟩ = w2.cell? ⟨g, j, none⟩ := fun j => f.cell (p := ⟨g, j, none⟩) hgw (by simp)
        simp only [fc]
        exact ⟨c0, c1⟩
      go_upto_region 9 with (fail)
      refine wp_region_held_drew (S := fun Wx => Wx.cell? ⟨g, 0, none⟩ = some (.int .i64 x0) ∧ Wx.cell? ⟨g, 1, none⟩ = some (.int .i64 x1)) (by kernel_rfl) (hSf _ ((Fr.refl _ w2).drew)) (fun hHeld => ?_)
      refine wpAnyH_take (i := 0) (v := ?_) rfl (by kernel_rfl) (by kernel_rfl) (by kernel_rfl) (fun _ _ _ h => h) (Or.inl ⟨by rfl, ?_⟩) (by assumption) ?_
      rotate_left
      · intro Wx hSw
        try dsimp only at hSw
        go_simp
        try with_reducible rfl
      try simp only [Act.put]
      refine wpAnyH_take (i := 1) (v := ?_) rfl (by kernel_rfl) (by kernel_rfl) (by kernel_rfl) (fun _ _ _ h => h) (Or.inl ⟨by rfl, ?_⟩) (by assumption) ?_
      rotate_left
      · intro Wx hSw
        try dsimp only at hSw
        go_simp
        try with_reducible rfl
      try simp only [Act.put]
      refine wpAnyH_take (i := 2) (v := ?_) rfl (by kernel_rfl) (by kernel_rfl) (by kernel_rfl) (fun _ _ _ h => h) (Or.inl ⟨by rfl, ?_⟩) (by assumption) ?_
      rotate_left
      · intro Wx hSw
        try dsimp only at hSw
        go_simp
        try with_reducible rfl
      try simp only [Act.put]
      refine wpAnyH_take (i := 3) (v := ?_) rfl (by kernel_rfl) (by kernel_rfl) (by kernel_rfl) (fun _ _ _ h => h) (Or.inl ⟨by rfl, ?_⟩) (by assumption) ?_
      rotate_left
      · intro Wx hSw
        try dsimp only at hSw
        go_simp
        try with_reducible rfl
      try simp only [Act.put]
      refine wpAnyH_take (i := 4) (v := ?_) rfl (by kernel_rfl) (by kernel_rfl) (by kernel_rfl) (fun _ _ _ h => h) (Or.inl ⟨by rfl, ?_⟩) (by assumption) ?_
      rotate_left
      · intro Wx hSw
        try dsimp only at hSw
        go_simp
        try with_reducible rfl
      try simp only [Act.put]
      refine wpAnyH_take (i := 6) (v := ?_) rfl (by kernel_rfl) (by kernel_rfl) (by kernel_rfl) (fun _ _ _ h => h) (Or.inl ⟨by rfl, ?_⟩) (by assumption) ?_
      rotate_left
      · intro Wx hSw
        try dsimp only at hSw
        go_simp
        try with_reducible rfl
      try simp only [Act.put]
      refine wpAnyH_take (i := 7) (v := ?_) rfl (by kernel_rfl) (by kernel_rfl) (by kernel_rfl) (fun _ _ _ h => h) (Or.inl ⟨by rfl, ?_⟩) (by assumption) ?_
      rotate_left
      · intro Wx hSw
        try dsimp only at hSw
        go_simp
        try with_reducible rfl
      try simp only [Act.put]
      refine wpAnyH_take (i := 8) (v := ?_) rfl (by kernel_rfl) (by kernel_rfl) (by kernel_rfl) (fun _ _ _ h => h) (Or.inl ⟨by rfl, ?_⟩) (by assumption) ?_
      rotate_left
      · intro Wx hSw
        try dsimp only at hSw
        go_simp
        try with_reducible rfl
      try simp only [Act.put]
      refine wpAnyH_take (i := 9) (v := ?_) rfl (by kernel_rfl) (by kernel_rfl) (by kernel_rfl) (fun _ _ _ h => h) (Or.inl ⟨by rfl, ?_⟩) (by assumption) ?_
      rotate_left
      · intro Wx hSw
        try dsimp only at hSw
        go_simp
        try with_reducible rfl
      try simp only [Act.put]
      refine wpAnyH_take (i := 10) (v := ?_) rfl (by kernel_rfl) (by kernel_rfl) (by kernel_rfl) (fun _ _ _ h => h) (Or.inl ⟨by rfl, ?_⟩) (by assumption) ?_
      rotate_left
      · intro Wx hSw
        try dsimp only at hSw
        go_simp
        try with_reducible rfl
      try simp only [Act.put]
      refine wpAnyH_take (i := 11) (v := ?_) rfl (by kernel_rfl) (by kernel_rfl) (by kernel_rfl) (fun _ _ _ h => h) (Or.inl ⟨by rfl, ?_⟩) (by assumption) ?_
      rotate_left
      · intro Wx hSw
        try dsimp only at hSw
        go_simp
        try with_reducible rfl
      try simp only [Act.put]
      refine wpAnyH_take (i := 12) (v := ?_) rfl (by kernel_rfl) (by kernel_rfl) (by kernel_rfl) (fun _ _ _ h => h) (Or.inl ⟨by rfl, ?_⟩) (by assumption) ?_
      rotate_left
      · intro Wx hSw
        try dsimp only at hSw
        go_simp
        try with_reducible rfl
      try simp only [Act.put]
      refine wpAnyH_ready (rs := [5, 13]) (by kernel_rfl) (by simp) (AllReadyH.cons rfl (fun K hK => ?_) (AllReadyH.cons rfl (fun K hK => ?_) AllReadyH.nil))
      · have p0d : w2.drew.cell? ⟨pb, 2, none⟩ = some (.slice C.A3 C.sg.length C.c3) := p0
        go_simp
        refine hK.out _ _ (hSf _ ((Fr.refl _ w2).drew)) (fun hHeld => ?_)
        clear hK K
        refine wpAnyH_ready (rs := [13]) (by kernel_rfl) (by simp) (AllReadyH.cons rfl (fun K hK => ?_) AllReadyH.nil)
        go_simp
        refine hK.out _ _ (hSf _ (hfa.mono fun _ _ h => h.elim)) (fun hHeld => ?_)
        clear hK K
        refine wpAnyH_ready (rs := [14]) (by kernel_rfl) (by simp) (AllReadyH.cons rfl (fun K hK => ?_) AllReadyH.nil)
        refine step_append_wide _ rfl (.tmp 95) (.tmp 103) 24 rfl q 56 i0 _ 2 16 Tryz.underlying24 hi0 hz0 hz1 hz2 rfl (by decide) (.slice C.A3 C.sg.length C.c3) C.sg.length _ (by simp [Act.eval]) hrow (some ⟨w2.heap.size, 0, none⟩) 1 1 [.int .i64 x0, .int .i64 x1] rfl (by simp [Act.eval]) hlit h1c (by unfold maxLen; omega) (by omega) hqa ?_
        intro v' w3 hown hg hat
        rw [← cellsG_snoc C.sg (⟨x0, x1⟩ : Sg)] at hown
        obtain ⟨A', c', rfl, _, _, _, _⟩ := wide_form hown
        obtain ⟨hP', hF'⟩ := PlanAt.add3 hpa (⟨x0, x1⟩ : Sg) hown hg
        have hF3 : Fr (fun k => k ≠ g) w2 w3 := ((hfa.mono fun _ _ h => h.elim).grown hg fun k hk => .inl (fun e => hgn (e ▸ hk)))
        refine hK.out _ _ (hSf _ hF3) (fun hHeld => ?_)
        clear hK K
        refine wpAnyH_take (i := 15) (v := ?_) rfl (by kernel_rfl) (by kernel_rfl) (by kernel_rfl) (fun _ _ _ h => h) (Or.inl ⟨by rfl, ?_⟩) (by assumption) ?_
        rotate_left
        · intro Wx hSw
          try dsimp only at hSw
          go_simp
          try with_reducible rfl
        try simp only [Act.put]
        refine wpAnyH_take (i := 16) (v := ?_) rfl (by kernel_rfl) (by kernel_rfl) (by kernel_rfl) (fun _ _ _ h => h) (Or.inl ⟨by rfl, ?_⟩) (by assumption) ?_
        rotate_left
        · intro Wx hSw
          try dsimp only at hSw
          go_simp
          try with_reducible rfl
        try simp only [Act.put]
        refine wpAnyH_take (i := 17) (v := ?_) rfl (by kernel_rfl) (by kernel_rfl) (by kernel_rfl) (fun _ _ _ h => h) (Or.inl ⟨by rfl, ?_⟩) (by assumption) ?_
        rotate_left
        · intro Wx hSw
          try dsimp only at hSw
          go_simp
          try with_reducible rfl
        try simp only [Act.put]
        refine wpAnyH_ready (rs := [18]) (by kernel_rfl) (by simp) (AllReadyH.cons rfl (fun K hK => ?_) AllReadyH.nil)
        have hcs : w3.cell? ⟨pb, 2, none⟩ = some (.slice C.A3 C.sg.length C.c3) := ((hpa.here.fr ((Fr.refl _ _).grown hg fun k hk => .inl hk) (wide_is_ne hpa.o3 hpa.here (by decide))).cell 2).trans rfl
        have hcf : w3.frozen? ⟨pb, 2, none⟩ = false := (hpa.here.fr ((Fr.refl _ _).grown hg fun k hk => .inl hk) (wide_is_ne hpa.o3 hpa.here (by decide))).frozen 2
        go_simp
        refine hK.out _ _ (hSf _ (hF3.setCell (p := ⟨pb, 2, none⟩) (.inl hpg) _)) (fun hHeld => ?_)
        clear hK K
        refine wpAnyH_done (by kernel_rfl) ?_ _
        go_wp2_with fail
        go_end0
        refine ⟨rfl, _, ?_, hP', (Fr.trans ((fr_nil hfw hfa).mono fun _ _ h => h.elim) hF' fun _ _ h => h)⟩
        show (_ : Cf) = _
        rw [htm]
        rfl
      · go_simp
        refine hK.out _ _ (hSf _ (hfa.mono fun _ _ h => h.elim)) (fun hHeld => ?_)
        clear hK K
        refine wpAnyH_ready (rs := [5]) (by kernel_rfl) (by simp) (AllReadyH.cons rfl (fun K hK => ?_) AllReadyH.nil)
        go_simp
        refine hK.out _ _ (hSf _ (hfa.mono fun _ _ h => h.elim)) (fun hHeld => ?_)
        clear hK K
        refine wpAnyH_ready (rs := [14]) (by kernel_rfl) (by simp) (AllReadyH.cons rfl (fun K hK => ?_) AllReadyH.nil)
        refine step_append_wide _ rfl (.tmp 95) (.tmp 103) 24 rfl q 56 i0 _ 2 16 Tryz.underlying24 hi0 hz0 hz1 hz2 rfl (by decide) (.slice C.A3 C.sg.length C.c3) C.sg.length _ (by simp [Act.eval]) hrow (some ⟨w2.heap.size, 0, none⟩) 1 1 [.int .i64 x0, .int .i64 x1] rfl (by simp [Act.eval]) hlit h1c (by unfold maxLen; omega) (by omega) hqa ?_
        intro v' w3 hown hg hat
        rw [← cellsG_snoc C.sg (⟨x0, x1⟩ : Sg)] at hown
        obtain ⟨A', c', rfl, _, _, _, _⟩ := wide_form hown
        obtain ⟨hP', hF'⟩ := PlanAt.add3 hpa (⟨x0, x1⟩ : Sg) hown hg
        have hF3 : Fr (fun k => k ≠ g) w2 w3 := ((hfa.mono fun _ _ h => h.elim).grown hg fun k hk => .inl (fun e => hgn (e ▸ hk)))
        refine hK.out _ _ (hSf _ hF3) (fun hHeld => ?_)
        clear hK K
        refine wpAnyH_take (i := 15) (v := ?_) rfl (by kernel_rfl) (by kernel_rfl) (by kernel_rfl) (fun _ _ _ h => h) (Or.inl ⟨by rfl, ?_⟩) (by assumption) ?_
        rotate_left
        · intro Wx hSw
          try dsimp only at hSw
          go_simp
          try with_reducible rfl
        try simp only [Act.put]
        refine wpAnyH_take (i := 16) (v := ?_) rfl (by kernel_rfl) (by kernel_rfl) (by kernel_rfl) (fun _ _ _ h => h) (Or.inl ⟨by rfl, ?_⟩) (by assumption) ?_
        rotate_left
        · intro Wx hSw
          try dsimp only at hSw
          go_simp
          try with_reducible rfl
        try simp only [Act.put]
        refine wpAnyH_take (i := 17) (v := ?_) rfl (by kernel_rfl) (by kernel_rfl) (by kernel_rfl) (fun _ _ _ h => h) (Or.inl ⟨by rfl, ?_⟩) (by assumption) ?_
        rotate_left
        · intro Wx hSw
          try dsimp only at hSw
          go_simp
          try with_reducible rfl
        try simp only [Act.put]
        refine wpAnyH_ready (rs := [18]) (by kernel_rfl) (by simp) (AllReadyH.cons rfl (fun K hK => ?_) AllReadyH.nil)
        have hcs : w3.cell? ⟨pb, 2, none⟩ = some (.slice C.A3 C.sg.length C.c3) := ((hpa.here.fr ((Fr.refl _ _).grown hg fun k hk => .inl hk) (wide_is_ne hpa.o3 hpa.here (by decide))).cell 2).trans rfl
        have hcf : w3.frozen? ⟨pb, 2, none⟩ = false := (hpa.here.fr ((Fr.refl _ _).grown hg fun k hk => .inl hk) (wide_is_ne hpa.o3 hpa.here (by decide))).frozen 2
        go_simp
        refine hK.out _ _ (hSf _ (hF3.setCell (p := ⟨pb, 2, none⟩) (.inl hpg) _)) (fun hHeld => ?_)
        clear hK K
        refine wpAnyH_done (by kernel_rfl) ?_ _
        go_wp2_with fail
        go_end0
        refine ⟨rfl, _, ?_, hP', (Fr.trans ((fr_nil hfw hfa).mono fun _ _ h => h.elim) hF' fun _ _ h => h)⟩
        show (_ : Cf) = _
        rw [htm]
        rfl
    · have hlb : ((L.length : Int) == 2) = false := by simp; omega
      have htm : takeM C.cf s = C.cf := by
        rw [htm]
        unfold takeN
        rw [if_neg (fun h => absurd h.1 (by decide)), if_neg (fun h => absurd h.1 (by decide)), if_neg (fun h => hlen h.2), if_neg (fun h => absurd h.1 (by decide)), if_neg (fun h => absurd h.1 (by decide))]
      go_wp2_with fail
      go_end0
      exact ⟨rfl, C, htm.symm, hp2, hfw.mono fun _ _ h => h.elim⟩
  have ewSg : (wd == [115, 105, 103, 110, 97, 108]) = false := by simpa using hwSg
  by_cases hwCr : wd = [99, 114, 111, 115, 115, 105, 110, 103]
  · subst hwCr
    have ewRt : ((([99, 114, 111, 115, 115, 105, 110, 103] : List UInt8) == [114, 111, 117, 116, 101])) = false := by decide
    have ewSec : ((([99, 114, 111, 115, 115, 105, 110, 103] : List UInt8) == [115, 101, 99, 116, 105, 111, 110])) = false := by decide
    have ewJo : ((([99, 114, 111, 115, 115, 105, 110, 103] : List UInt8) == [106, 111, 105, 110, 116])) = false := by decide
    have ewSg : ((([99, 114, 111, 115, 115, 105, 110, 103] : List UInt8) == [115, 105, 103, 110, 97, 108])) = false := by decide
    have ewCr : ((([99, 114, 111, 115, 115, 105, 110, 103] : List UInt8) == [99, 114, 111, 115, 115, 105, 110, 103])) = true := by decide
    have ewTm : ((([99, 114, 111, 115, 115, 105, 110, 103] : List UInt8) == [116, 105, 109, 105, 110, 103])) = false := by decide
    by_cases hlen : L.length = 1
    · obtain ⟨x0, rfl⟩ := len1 hlen
      clear hlen
      have hzz : C.cr.length ≤ 268435456 := hz.crs

      unfold takeN at htm
      rw [if_neg (fun h => absurd h.1 (by decide)), if_neg (fun h => absurd h.1 (by decide)), if_neg (fun h => absurd h.1 (by decide)), if_pos ⟨rfl, rfl⟩] at htm
      obtain ⟨g, rfl, hgw⟩ := hA (by simp)
      have hg1 : w1.heap.size ≤ g := (World.ownsRow.lt hown g rfl).1
      have hpg : (pb : Nat) ≠ g := by have := h.lt; have := hp1.hq; omega
      have c0 : w2.cell? ⟨g, 0, none⟩ = some (.int .i64 x0) := by simpa using rd_getD (wide_rd hown) 0 (by simp)
      obtain ⟨i0, hi0, hz0, hz1, hz2⟩ := info_parts Tryz.infoI6
      have hpa : PlanAt q pb C ((w2.drew).alloc (.cells #[.int .i64 x0] 3)) := hp2.fr (((Fr.refl _ w2).drew).alloc _)
      have hfa : Fr (fun _ => False) w2 ((w2.drew).alloc (.cells #[.int .i64 x0] 3)) := ((Fr.refl _ w2).drew).alloc _
      have hrow := hpa.o4
      have hlit : Rd ((w2.drew).alloc (.cells #[.int .i64 x0] 3)) (some ⟨w2.heap.size, 0, none⟩) [.int .i64 x0] := lit_rd_at rfl _ _
      have h1c : ∀ u ∈ ([.int .i64 x0] : List Value), u.oneCell' = true := by
        intro u hu
        simp only [List.mem_cons, List.not_mem_nil, or_false] at hu
        rcases hu with rfl <;> rfl
      have hqa : q ≤ ((w2.drew).alloc (.cells #[.int .i64 x0] 3)).heap.size := hpa.hq
      have hzl : C.cr.length ≤ 268435456 := hzz
      have hgn : (Value.slice C.A4 C.cr.length C.c4).ownBlock ≠ some g := fun e => by
        have := wide_lt hp1.o4 g e
        omega
      have p0 := hp2.here.cell 3
      have p0a := hpa.here.cell 3
      have p0b := (hp2.here.alloc (.cells #[.int .i64 x0] 3)).cell 3
      unfold Cm.arr at p0 p0a p0b
      simp at p0 p0a p0b
      have hSf : ∀ Wx, Fr (fun k => k ≠ g) w2 Wx → Wx.cell? ⟨g, 0, none⟩ = some (.int .i64 x0) := fun Wx f => by
        have fc : ∀ j, Wx.cell? ⟨g, j, none⟩ = w2.cell? ⟨g, j, none⟩ := fun j => f.cell (p := ⟨g, j, none⟩) hgw (by simp)
        simp only [fc]
        exact c0
      go_upto_region 11 with (fail)
      refine wp_region_held_drew (S := fun Wx => Wx.cell? ⟨g, 0, none⟩ = some (.int .i64 x0)) (by kernel_rfl) (hSf _ ((Fr.refl _ w2).drew)) (fun hHeld => ?_)
      refine wpAnyH_take (i := 0) (v := ?_) rfl (by kernel_rfl) (by kernel_rfl) (by kernel_rfl) (fun _ _ _ h => h) (Or.inl ⟨by rfl, ?_⟩) (by assumption) ?_
      rotate_left
      · intro Wx hSw
        try dsimp only at hSw
        go_simp
        try with_reducible rfl
      try simp only [Act.put]
      refine wpAnyH_take (i := 1) (v := ?_) rfl (by kernel_rfl) (by kernel_rfl) (by kernel_rfl) (fun _ _ _ h => h) (Or.inl ⟨by rfl, ?_⟩) (by assumption) ?_
      rotate_left
      · intro Wx hSw
        try dsimp only at hSw
        go_simp
        try with_reducible rfl
      try simp only [Act.put]
      refine wpAnyH_take (i := 2) (v := ?_) rfl (by kernel_rfl) (by kernel_rfl) (by kernel_rfl) (fun _ _ _ h => h) (Or.inl ⟨by rfl, ?_⟩) (by assumption) ?_
      rotate_left
      · intro Wx hSw
        try dsimp only at hSw
        go_simp
        try with_reducible rfl
      try simp only [Act.put]
      refine wpAnyH_take (i := 3) (v := ?_) rfl (by kernel_rfl) (by kernel_rfl) (by kernel_rfl) (fun _ _ _ h => h) (Or.inl ⟨by rfl, ?_⟩) (by assumption) ?_
      rotate_left
      · intro Wx hSw
        try dsimp only at hSw
        go_simp
        try with_reducible rfl
      try simp only [Act.put]
      refine wpAnyH_take (i := 4) (v := ?_) rfl (by kernel_rfl) (by kernel_rfl) (by kernel_rfl) (fun _ _ _ h => h) (Or.inl ⟨by rfl, ?_⟩) (by assumption) ?_
      rotate_left
      · intro Wx hSw
        try dsimp only at hSw
        go_simp
        try with_reducible rfl
      try simp only [Act.put]
      refine wpAnyH_take (i := 6) (v := ?_) rfl (by kernel_rfl) (by kernel_rfl) (by kernel_rfl) (fun _ _ _ h => h) (Or.inl ⟨by rfl, ?_⟩) (by assumption) ?_
      rotate_left
      · intro Wx hSw
        try dsimp only at hSw
        go_simp
        try with_reducible rfl
      try simp only [Act.put]
      refine wpAnyH_take (i := 7) (v := ?_) rfl (by kernel_rfl) (by kernel_rfl) (by kernel_rfl) (fun _ _ _ h => h) (Or.inl ⟨by rfl, ?_⟩) (by assumption) ?_
      rotate_left
      · intro Wx hSw
        try dsimp only at hSw
        go_simp
        try with_reducible rfl
      try simp only [Act.put]
      refine wpAnyH_take (i := 8) (v := ?_) rfl (by kernel_rfl) (by kernel_rfl) (by kernel_rfl) (fun _ _ _ h => h) (Or.inl ⟨by rfl, ?_⟩) (by assumption) ?_
      rotate_left
      · intro Wx hSw
        try dsimp only at hSw
        go_simp
        try with_reducible rfl
      try simp only [Act.put]
      refine wpAnyH_ready (rs := [5, 9]) (by kernel_rfl) (by simp) (AllReadyH.cons rfl (fun K hK => ?_) (AllReadyH.cons rfl (fun K hK => ?_) AllReadyH.nil))
      · have p0d : w2.drew.cell? ⟨pb, 3, none⟩ = some (.slice C.A4 C.cr.length C.c4) := p0
        go_simp
        refine hK.out _ _ (hSf _ ((Fr.refl _ w2).drew)) (fun hHeld => ?_)
        clear hK K
        refine wpAnyH_ready (rs := [9]) (by kernel_rfl) (by simp) (AllReadyH.cons rfl (fun K hK => ?_) AllReadyH.nil)
        go_simp
        refine hK.out _ _ (hSf _ (hfa.mono fun _ _ h => h.elim)) (fun hHeld => ?_)
        clear hK K
        refine wpAnyH_ready (rs := [10]) (by kernel_rfl) (by simp) (AllReadyH.cons rfl (fun K hK => ?_) AllReadyH.nil)
        refine step_append_wide _ rfl (.tmp 121) (.tmp 125) 25 rfl q 3 i0 _ 1 8 Tryz.underlying25 hi0 hz0 hz1 hz2 rfl (by decide) (.slice C.A4 C.cr.length C.c4) C.cr.length _ (by simp [Act.eval]) hrow (some ⟨w2.heap.size, 0, none⟩) 1 1 [.int .i64 x0] rfl (by simp [Act.eval]) hlit h1c (by unfold maxLen; omega) (by omega) hqa ?_
        intro v' w3 hown hg hat
        rw [← cellsInt_snoc C.cr x0] at hown
        obtain ⟨A', c', rfl, _, _, _, _⟩ := wide_form hown
        obtain ⟨hP', hF'⟩ := PlanAt.add4 hpa x0 hown hg hat
        have hF3 : Fr (fun k => k ≠ g) w2 w3 := ((hfa.mono fun _ _ h => h.elim).grown hg fun k hk => .inl (fun e => hgn (e ▸ hk)))
        refine hK.out _ _ (hSf _ hF3) (fun hHeld => ?_)
        clear hK K
        refine wpAnyH_take (i := 11) (v := ?_) rfl (by kernel_rfl) (by kernel_rfl) (by kernel_rfl) (fun _ _ _ h => h) (Or.inl ⟨by rfl, ?_⟩) (by assumption) ?_
        rotate_left
        · intro Wx hSw
          try dsimp only at hSw
          go_simp
          try with_reducible rfl
        try simp only [Act.put]
        refine wpAnyH_take (i := 12) (v := ?_) rfl (by kernel_rfl) (by kernel_rfl) (by kernel_rfl) (fun _ _ _ h => h) (Or.inl ⟨by rfl, ?_⟩) (by assumption) ?_
        rotate_left
        · intro Wx hSw
          try dsimp only at hSw
          go_simp
          try with_reducible rfl
        try simp only [Act.put]
        refine wpAnyH_take (i := 13) (v := ?_) rfl (by kernel_rfl) (by kernel_rfl) (by kernel_rfl) (fun _ _ _ h => h) (Or.inl ⟨by rfl, ?_⟩) (by assumption) ?_
        rotate_left
        · intro Wx hSw
          try dsimp only at hSw
          go_simp
          try with_reducible rfl
        try simp only [Act.put]
        refine wpAnyH_ready (rs := [14]) (by kernel_rfl) (by simp) (AllReadyH.cons rfl (fun K hK => ?_) AllReadyH.nil)
        have hcs : w3.cell? ⟨pb, 3, none⟩ = some (.slice C.A4 C.cr.length C.c4) := ((hpa.here.fr ((Fr.refl _ _).grown hg fun k hk => .inl hk) (wide_is_ne hpa.o4 hpa.here (by decide))).cell 3).trans rfl
        have hcf : w3.frozen? ⟨pb, 3, none⟩ = false := (hpa.here.fr ((Fr.refl _ _).grown hg fun k hk => .inl hk) (wide_is_ne hpa.o4 hpa.here (by decide))).frozen 3
        go_simp
        refine hK.out _ _ (hSf _ (hF3.setCell (p := ⟨pb, 3, none⟩) (.inl hpg) _)) (fun hHeld => ?_)
        clear hK K
        refine wpAnyH_done (by kernel_rfl) ?_ _
        go_wp2_with fail
        go_end0
        refine ⟨rfl, _, ?_, hP', (Fr.trans ((fr_nil hfw hfa).mono fun _ _ h => h.elim) hF' fun _ _ h => h)⟩
        show (_ : Cf) = _
        rw [htm]
        rfl
      · go_simp
        refine hK.out _ _ (hSf _ (hfa.mono fun _ _ h => h.elim)) (fun hHeld => ?_)
        clear hK K
        refine wpAnyH_ready (rs := [5]) (by kernel_rfl) (by simp) (AllReadyH.cons rfl (fun K hK => ?_) AllReadyH.nil)
        go_simp
        refine hK.out _ _ (hSf _ (hfa.mono fun _ _ h => h.elim)) (fun hHeld => ?_)
        clear hK K
        refine wpAnyH_ready (rs := [10]) (by kernel_rfl) (by simp) (AllReadyH.cons rfl (fun K hK => ?_) AllReadyH.nil)
        refine step_append_wide _ rfl (.tmp 121) (.tmp 125) 25 rfl q 3 i0 _ 1 8 Tryz.underlying25 hi0 hz0 hz1 hz2 rfl (by decide) (.slice C.A4 C.cr.length C.c4) C.cr.length _ (by simp [Act.eval]) hrow (some ⟨w2.heap.size, 0, none⟩) 1 1 [.int .i64 x0] rfl (by simp [Act.eval]) hlit h1c (by unfold maxLen; omega) (by omega) hqa ?_
        intro v' w3 hown hg hat
        rw [← cellsInt_snoc C.cr x0] at hown
        obtain ⟨A', c', rfl, _, _, _, _⟩ := wide_form hown
        obtain ⟨hP', hF'⟩ := PlanAt.add4 hpa x0 hown hg hat
        have hF3 : Fr (fun k => k ≠ g) w2 w3 := ((hfa.mono fun _ _ h => h.elim).grown hg fun k hk => .inl (fun e => hgn (e ▸ hk)))
        refine hK.out _ _ (hSf _ hF3) (fun hHeld => ?_)
        clear hK K
        refine wpAnyH_take (i := 11) (v := ?_) rfl (by kernel_rfl) (by kernel_rfl) (by kernel_rfl) (fun _ _ _ h => h) (Or.inl ⟨by rfl, ?_⟩) (by assumption) ?_
        rotate_left
        · intro Wx hSw
          try dsimp only at hSw
          go_simp
          try with_reducible rfl
        try simp only [Act.put]
        refine wpAnyH_take (i := 12) (v := ?_) rfl (by kernel_rfl) (by kernel_rfl) (by kernel_rfl) (fun _ _ _ h => h) (Or.inl ⟨by rfl, ?_⟩) (by assumption) ?_
        rotate_left
        · intro Wx hSw
          try dsimp only at hSw
          go_simp
          try with_reducible rfl
        try simp only [Act.put]
        refine wpAnyH_take (i := 13) (v := ?_) rfl (by kernel_rfl) (by kernel_rfl) (by kernel_rfl) (fun _ _ _ h => h) (Or.inl ⟨by rfl, ?_⟩) (by assumption) ?_
        rotate_left
        · intro Wx hSw
          try dsimp only at hSw
          go_simp
          try with_reducible rfl
        try simp only [Act.put]
        refine wpAnyH_ready (rs := [14]) (by kernel_rfl) (by simp) (AllReadyH.cons rfl (fun K hK => ?_) AllReadyH.nil)
        have hcs : w3.cell? ⟨pb, 3, none⟩ = some (.slice C.A4 C.cr.length C.c4) := ((hpa.here.fr ((Fr.refl _ _).grown hg fun k hk => .inl hk) (wide_is_ne hpa.o4 hpa.here (by decide))).cell 3).trans rfl
        have hcf : w3.frozen? ⟨pb, 3, none⟩ = false := (hpa.here.fr ((Fr.refl _ _).grown hg fun k hk => .inl hk) (wide_is_ne hpa.o4 hpa.here (by decide))).frozen 3
        go_simp
        refine hK.out _ _ (hSf _ (hF3.setCell (p := ⟨pb, 3, none⟩) (.inl hpg) _)) (fun hHeld => ?_)
        clear hK K
        refine wpAnyH_done (by kernel_rfl) ?_ _
        go_wp2_with fail
        go_end0
        refine ⟨rfl, _, ?_, hP', (Fr.trans ((fr_nil hfw hfa).mono fun _ _ h => h.elim) hF' fun _ _ h => h)⟩
        show (_ : Cf) = _
        rw [htm]
        rfl
    · have hlb : ((L.length : Int) == 1) = false := by simp; omega
      have htm : takeM C.cf s = C.cf := by
        rw [htm]
        unfold takeN
        rw [if_neg (fun h => absurd h.1 (by decide)), if_neg (fun h => absurd h.1 (by decide)), if_neg (fun h => absurd h.1 (by decide)), if_neg (fun h => hlen h.2), if_neg (fun h => absurd h.1 (by decide))]
      go_wp2_with fail
      go_end0
      exact ⟨rfl, C, htm.symm, hp2, hfw.mono fun _ _ h => h.elim⟩
  have ewCr : (wd == [99, 114, 111, 115, 115, 105, 110, 103]) = false := by simpa using hwCr
  by_cases hwTm : wd = [116, 105, 109, 105, 110, 103]
  · subst hwTm
    have ewRt : ((([116, 105, 109, 105, 110, 103] : List UInt8) == [114, 111, 117, 116, 101])) = false := by decide
    have ewSec : ((([116, 105, 109, 105, 110, 103] : List UInt8) == [115, 101, 99, 116, 105, 111, 110])) = false := by decide
    have ewJo : ((([116, 105, 109, 105, 110, 103] : List UInt8) == [106, 111, 105, 110, 116])) = false := by decide
    have ewSg : ((([116, 105, 109, 105, 110, 103] : List UInt8) == [115, 105, 103, 110, 97, 108])) = false := by decide
    have ewCr : ((([116, 105, 109, 105, 110, 103] : List UInt8) == [99, 114, 111, 115, 115, 105, 110, 103])) = false := by decide
    have ewTm : ((([116, 105, 109, 105, 110, 103] : List UInt8) == [116, 105, 109, 105, 110, 103])) = true := by decide
    by_cases hlen : L.length = 4
    · obtain ⟨x0, x1, x2, x3, rfl⟩ := len4 hlen
      clear hlen
    
      unfold takeN at htm
      rw [if_neg (fun h => absurd h.1 (by decide)), if_neg (fun h => absurd h.1 (by decide)), if_neg (fun h => absurd h.1 (by decide)), if_neg (fun h => absurd h.1 (by decide)), if_pos ⟨rfl, rfl⟩] at htm
      obtain ⟨g, rfl, hgw⟩ := hA (by simp)
      have hg1 : w1.heap.size ≤ g := (World.ownsRow.lt hown g rfl).1
      have hpg : (pb : Nat) ≠ g := by have := h.lt; have := hp1.hq; omega
      have c0 : w2.cell? ⟨g, 0, none⟩ = some (.int .i64 x0) := by simpa using rd_getD (wide_rd hown) 0 (by simp)
      have c1 : w2.cell? ⟨g, 1, none⟩ = some (.int .i64 x1) := by simpa using rd_getD (wide_rd hown) 1 (by simp)
      have c2 : w2.cell? ⟨g, 2, none⟩ = some (.int .i64 x2) := by simpa using rd_getD (wide_rd hown) 2 (by simp)
      have c3 : w2.cell? ⟨g, 3, none⟩ = some (.int .i64 x3) := by simpa using rd_getD (wide_rd hown) 3 (by simp)
      have hSf : ∀ Wx, Fr (fun k => k ≠ g) w2 Wx → Wx.cell? ⟨g, 0, none⟩ = some (.int .i64 x0) ∧ Wx.cell? ⟨g, 1, none⟩ = some (.int .i64 x1) ∧ Wx.cell? ⟨g, 2, none⟩ = some (.int .i64 x2) ∧ Wx.cell? ⟨g, 3, none⟩ = some (.int .i64 x3) := fun Wx f => by
        have fc : ∀ j, Wx.cell? ⟨g, j, none⟩ = w2.cell? ⟨g, j, none⟩ := fun j => f.cell (p := ⟨g, j, none⟩) hgw (by simp)
        simp only [fc]
        exact ⟨c0, c1, c2, c3⟩
      obtain ⟨hP', hF'⟩ := PlanAt.time (hp2.fr ((Fr.refl _ w2).drew)) ⟨x0, x1, x2, x3⟩
      simp only [World.setCells] at hP' hF'
      have hh := hp2.here
      have y5 : w2.cell? ⟨pb, 5, none⟩ = some (.int .i64 C.tm.age) := (hh.cell 5).trans rfl
      have y6 : w2.cell? ⟨pb, 6, none⟩ = some (.int .i64 C.tm.brake) := (hh.cell 6).trans rfl
      have y7 : w2.cell? ⟨pb, 7, none⟩ = some (.int .i64 C.tm.hold) := (hh.cell 7).trans rfl
      have y8 : w2.cell? ⟨pb, 8, none⟩ = some (.int .i64 C.tm.budget) := (hh.cell 8).trans rfl
      have z5 := hh.frozen 5
      have z6 := hh.frozen 6
      have z7 := hh.frozen 7
      have z8 := hh.frozen 8
      go_upto_region 13 with (fail)
      refine wp_region_held_drew (S := fun Wx => Wx.cell? ⟨g, 0, none⟩ = some (.int .i64 x0) ∧ Wx.cell? ⟨g, 1, none⟩ = some (.int .i64 x1) ∧ Wx.cell? ⟨g, 2, none⟩ = some (.int .i64 x2) ∧ Wx.cell? ⟨g, 3, none⟩ = some (.int .i64 x3)) (by kernel_rfl) (hSf _ ((Fr.refl _ w2).drew)) (fun hHeld => ?_)
      refine wpAnyH_take (i := 0) (v := ?_) rfl (by kernel_rfl) (by kernel_rfl) (by kernel_rfl) (fun _ _ _ h => h) (Or.inl ⟨by rfl, ?_⟩) (by assumption) ?_
      rotate_left
      · intro Wx hSw
        try dsimp only at hSw
        go_simp
        try with_reducible rfl
      try simp only [Act.put]
      refine wpAnyH_take (i := 1) (v := ?_) rfl (by kernel_rfl) (by kernel_rfl) (by kernel_rfl) (fun _ _ _ h => h) (Or.inl ⟨by rfl, ?_⟩) (by assumption) ?_
      rotate_left
      · intro Wx hSw
        try dsimp only at hSw
        go_simp
        try with_reducible rfl
      try simp only [Act.put]
      refine wpAnyH_take (i := 2) (v := ?_) rfl (by kernel_rfl) (by kernel_rfl) (by kernel_rfl) (fun _ _ _ h => h) (Or.inl ⟨by rfl, ?_⟩) (by assumption) ?_
      rotate_left
      · intro Wx hSw
        try dsimp only at hSw
        go_simp
        try with_reducible rfl
      try simp only [Act.put]
      refine wpAnyH_take (i := 3) (v := ?_) rfl (by kernel_rfl) (by kernel_rfl) (by kernel_rfl) (fun _ _ _ h => h) (Or.inl ⟨by rfl, ?_⟩) (by assumption) ?_
      rotate_left
      · intro Wx hSw
        try dsimp only at hSw
        go_simp
        try with_reducible rfl
      try simp only [Act.put]
      refine wpAnyH_take (i := 4) (v := ?_) rfl (by kernel_rfl) (by kernel_rfl) (by kernel_rfl) (fun _ _ _ h => h) (Or.inl ⟨by rfl, ?_⟩) (by assumption) ?_
      rotate_left
      · intro Wx hSw
        try dsimp only at hSw
        go_simp
        try with_reducible rfl
      try simp only [Act.put]
      refine wpAnyH_take (i := 5) (v := ?_) rfl (by kernel_rfl) (by kernel_rfl) (by kernel_rfl) (fun _ _ _ h => h) (Or.inl ⟨by rfl, ?_⟩) (by assumption) ?_
      rotate_left
      · intro Wx hSw
        try dsimp only at hSw
        go_simp
        try with_reducible rfl
      try simp only [Act.put]
      refine wpAnyH_take (i := 6) (v := ?_) rfl (by kernel_rfl) (by kernel_rfl) (by kernel_rfl) (fun _ _ _ h => h) (Or.inl ⟨by rfl, ?_⟩) (by assumption) ?_
      rotate_left
      · intro Wx hSw
        try dsimp only at hSw
        go_simp
        try with_reducible rfl
      try simp only [Act.put]
      refine wpAnyH_take (i := 7) (v := ?_) rfl (by kernel_rfl) (by kernel_rfl) (by kernel_rfl) (fun _ _ _ h => h) (Or.inl ⟨by rfl, ?_⟩) (by assumption) ?_
      rotate_left
      · intro Wx hSw
        try dsimp only at hSw
        go_simp
        try with_reducible rfl
      try simp only [Act.put]
      refine wpAnyH_take (i := 8) (v := ?_) rfl (by kernel_rfl) (by kernel_rfl) (by kernel_rfl) (fun _ _ _ h => h) (Or.inl ⟨by rfl, ?_⟩) (by assumption) ?_
      rotate_left
      · intro Wx hSw
        try dsimp only at hSw
        go_simp
        try with_reducible rfl
      try simp only [Act.put]
      refine wpAnyH_take (i := 9) (v := ?_) rfl (by kernel_rfl) (by kernel_rfl) (by kernel_rfl) (fun _ _ _ h => h) (Or.inl ⟨by rfl, ?_⟩) (by assumption) ?_
      rotate_left
      · intro Wx hSw
        try dsimp only at hSw
        go_simp
        try with_reducible rfl
      try simp only [Act.put]
      refine wpAnyH_take (i := 10) (v := ?_) rfl (by kernel_rfl) (by kernel_rfl) (by kernel_rfl) (fun _ _ _ h => h) (Or.inl ⟨by rfl, ?_⟩) (by assumption) ?_
      rotate_left
      · intro Wx hSw
        try dsimp only at hSw
        go_simp
        try with_reducible rfl
      try simp only [Act.put]
      refine wpAnyH_take (i := 11) (v := ?_) rfl (by kernel_rfl) (by kernel_rfl) (by kernel_rfl) (fun _ _ _ h => h) (Or.inl ⟨by rfl, ?_⟩) (by assumption) ?_
      rotate_left
      · intro Wx hSw
        try dsimp only at hSw
        go_simp
        try with_reducible rfl
      try simp only [Act.put]
      refine wpAnyH_take (i := 12) (v := ?_) rfl (by kernel_rfl) (by kernel_rfl) (by kernel_rfl) (fun _ _ _ h => h) (Or.inl ⟨by rfl, ?_⟩) (by assumption) ?_
      rotate_left
      · intro Wx hSw
        try dsimp only at hSw
        go_simp
        try with_reducible rfl
      try simp only [Act.put]
      refine wpAnyH_take (i := 13) (v := ?_) rfl (by kernel_rfl) (by kernel_rfl) (by kernel_rfl) (fun _ _ _ h => h) (Or.inl ⟨by rfl, ?_⟩) (by assumption) ?_
      rotate_left
      · intro Wx hSw
        try dsimp only at hSw
        go_simp
        try with_reducible rfl
      try simp only [Act.put]
      refine wpAnyH_take (i := 14) (v := ?_) rfl (by kernel_rfl) (by kernel_rfl) (by kernel_rfl) (fun _ _ _ h => h) (Or.inl ⟨by rfl, ?_⟩) (by assumption) ?_
      rotate_left
      · intro Wx hSw
        try dsimp only at hSw
        go_simp
        try with_reducible rfl
      try simp only [Act.put]
      refine wpAnyH_take (i := 15) (v := ?_) rfl (by kernel_rfl) (by kernel_rfl) (by kernel_rfl) (fun _ _ _ h => h) (Or.inl ⟨by rfl, ?_⟩) (by assumption) ?_
      rotate_left
      · intro Wx hSw
        try dsimp only at hSw
        go_simp
        try with_reducible rfl
      try simp only [Act.put]
      refine wpAnyH_take (i := 16) (v := ?_) rfl (by kernel_rfl) (by kernel_rfl) (by kernel_rfl) (fun _ _ _ h => h) (Or.inl ⟨by rfl, ?_⟩) (by assumption) ?_
      rotate_left
      · intro Wx hSw
        try dsimp only at hSw
        go_simp
        try with_reducible rfl
      try simp only [Act.put]
      refine wpAnyH_ready (rs := [17]) (by kernel_rfl) (by simp) (AllReadyH.cons rfl (fun K hK => ?_) AllReadyH.nil)
      go_simp
      refine hK.out _ _ (hSf _ ((((((Fr.refl _ w2)).setCell (p := ⟨pb, 5, none⟩) (.inl hpg) _).setCell (p := ⟨pb, 6, none⟩) (.inl hpg) _).setCell (p := ⟨pb, 7, none⟩) (.inl hpg) _).setCell (p := ⟨pb, 8, none⟩) (.inl hpg) _).drew) (fun hHeld => ?_)
      clear hK K
      refine wpAnyH_done (by kernel_rfl) ?_ _
      go_wp2_with fail
      go_end0
      refine ⟨rfl, _, ?_, hP', (Fr.trans ((fr_nil hfw ((Fr.refl _ w2).drew)).mono fun _ _ h => h.elim) hF' fun _ _ h => h)⟩
      show (_ : Cf) = _
      rw [htm]
      rfl
    · have hlb : ((L.length : Int) == 4) = false := by simp; omega
      have htm : takeM C.cf s = C.cf := by
        rw [htm]
        unfold takeN
        rw [if_neg (fun h => absurd h.1 (by decide)), if_neg (fun h => absurd h.1 (by decide)), if_neg (fun h => absurd h.1 (by decide)), if_neg (fun h => absurd h.1 (by decide)), if_neg (fun h => hlen h.2)]
      go_wp2_with fail
      go_end0
      exact ⟨rfl, C, htm.symm, hp2, hfw.mono fun _ _ h => h.elim⟩
  have ewTm : (wd == [116, 105, 109, 105, 110, 103]) = false := by simpa using hwTm
  have htm : takeM C.cf s = C.cf := by
    rw [htm]
    unfold takeN
    rw [if_neg (fun h => hwSec h.1), if_neg (fun h => hwJo h.1), if_neg (fun h => hwSg h.1), if_neg (fun h => hwCr h.1), if_neg (fun h => hwTm h.1)]
  go_wp2_with fail
  go_end0
  exact ⟨rfl, C, htm.symm, hp2, hfw.mono fun _ _ h => h.elim⟩
end Go.Proofs.YtkkohdmneognlaaGreatDoor

/- The contracts of the program's receiver: NewReceiver, refusal, add, Take, Last, Alive, Lost. -/
import Derived.Test.YtcencpkoimahbaaTread
import Derived.Deep.RegionHeld3
namespace Go.Proofs.Ytcencpkoimahbaa
open Go.RowKit Li

/-- The program's receiver lies at block b, and stands at r. -/
def rvR (r : R) : Array Value := #[.bool r.begun, .int .i64 r.newest, .int .i64 r.lost, .int .i64 r.peer, .int .i64 r.age, .int .i64 r.last]
def Rv (w : World) (b : Nat) (r : R) : Prop := Is w b 49 (rvR r)
theorem rv_cells {w : World} {b : Nat} {r : R} (h : Rv w b r) : w.cell? ⟨b, 0, none⟩ = some (.bool r.begun) ∧ w.cell? ⟨b, 1, none⟩ = some (.int .i64 r.newest) ∧ w.cell? ⟨b, 2, none⟩ = some (.int .i64 r.lost) ∧ w.cell? ⟨b, 3, none⟩ = some (.int .i64 r.peer) ∧ w.cell? ⟨b, 4, none⟩ = some (.int .i64 r.age) ∧ w.cell? ⟨b, 5, none⟩ = some (.int .i64 r.last) :=
  ⟨Is.cell h 0, Is.cell h 1, Is.cell h 2, Is.cell h 3, Is.cell h 4, Is.cell h 5⟩

theorem newrecv_any (peer age : Int) (w : World) :
    Calls Try.prog 15 #[.int .i64 peer, .int .i64 age] w fun e w' => e = .returned (.pointer (some ⟨w.heap.size, 0, none⟩)) ∧ Rv w' w.heap.size (R.new peer age) ∧ Fr (fun _ => False) w w' := by
  have i1 : Rv (w.alloc (.cells (rvR (R.new peer age)) 49)) w.heap.size (R.new peer age) := Is.new w _ _
  have f1 := (Fr.refl (fun _ => False) w).alloc (.cells (rvR (R.new peer age)) 49)
  go_enter Try.func15, Try.ntmps15
  go_wp2
  go_ret
  exact ⟨rfl, i1, f1⟩
theorem last_any {w : World} {b : Nat} {r : R} (h : Rv w b r) :
    Calls Try.prog 19 #[.pointer (some ⟨b, 0, none⟩)] w fun e w' => e = .returned (.int .i64 r.last) ∧ w' = w := by
  obtain ⟨c0, c1, c2, c3, c4, c5⟩ := rv_cells h
  go_enter Try.func19, Try.ntmps19
  go_wp2
  go_ret
  exact ⟨rfl, rfl⟩
theorem lostr_any {w : World} {b : Nat} {r : R} (h : Rv w b r) :
    Calls Try.prog 22 #[.pointer (some ⟨b, 0, none⟩)] w fun e w' => e = .returned (.int .i64 r.lost) ∧ w' = w := by
  obtain ⟨c0, c1, c2, c3, c4, c5⟩ := rv_cells h
  go_enter Try.func22, Try.ntmps22
  go_wp2
  go_ret
  exact ⟨rfl, rfl⟩
theorem alive_any {w : World} {b : Nat} {r : R} (h : Rv w b r) (now : Int) (hn : now ≤ 9223372036854775807) :
    Calls Try.prog 20 #[.pointer (some ⟨b, 0, none⟩), .int .i64 now] w fun e w' => e = .returned (.bool (r.alive now)) ∧ ∃ n, w' = w.drewN n := by
  obtain ⟨c0, c1, c2, c3, c4, c5⟩ := rv_cells h
  have HA : Hid (r.alive now = (decide (0 ≤ r.last) && (decide (r.last ≤ now) && decide (now - r.last ≤ r.age)))) := Lib.hid rfl
  generalize r.last = l at *
  generalize r.age = a at *
  by_cases h0 : 0 ≤ l
  · by_cases h1 : l ≤ now
    · have d0 : decide (0 ≤ l) = true := decide_eq_true h0
      have d1 : decide (l ≤ now) = true := decide_eq_true h1
      have hw : wrap64 (now - l) = now - l := IntWalk.wrap64_in _ ⟨by omega, by omega⟩
      have HE : Hid (r.alive now = decide (now - l ≤ a)) := Lib.hid (by rw [HA.out, decide_eq_true h0, decide_eq_true h1]; rfl)
      clear HA
      go_enter Try.func20, Try.ntmps20
      go_wp2_with fail
      go_quiet (fail)
      go_wp2_with fail
      go_ret
      exact ⟨by rw [HE.out]; rfl, _, rfl⟩
    · have d0 : decide (0 ≤ l) = true := decide_eq_true h0
      have d1 : decide (l ≤ now) = false := decide_eq_false h1
      have HE : Hid (r.alive now = false) := Lib.hid (by rw [HA.out, decide_eq_false h1, Bool.false_and, Bool.and_false])
      clear HA
      go_enter Try.func20, Try.ntmps20
      go_wp2_with fail
      go_quiet (fail)
      go_wp2_with fail
      go_ret
      exact ⟨by rw [HE.out]; rfl, _, rfl⟩
  · have d0 : decide (0 ≤ l) = false := decide_eq_false h0
    have HE : Hid (r.alive now = false) := Lib.hid (by rw [HA.out, decide_eq_false h0, Bool.false_and])
    clear HA
    go_enter Try.func20, Try.ntmps20
    go_wp2_with fail
    go_quiet (fail)
    go_wp2_with fail
    go_ret
    exact ⟨by rw [HE.out]; rfl, _, rfl⟩
theorem refusal_any {w : World} {b : Nat} {r : R} (h : Rv w b r) (now peer stamp : Int) (hn : now ≤ 9223372036854775807) (hs : 0 ≤ stamp) :
    Calls Try.prog 43 #[.pointer (some ⟨b, 0, none⟩), .int .i64 now, .int .i64 peer, .int .i64 stamp] w fun e w' => e = .returned (.int .i64 (r.refuse now peer stamp)) ∧ w' = w := by
  obtain ⟨c0, c1, c2, c3, c4, c5⟩ := rv_cells h
  have HA : Hid (r.refuse now peer stamp = if peer ≠ r.peer then 16 else if now < stamp then 19 else if r.age < now - stamp then 17 else if stamp ≤ r.last then 18 else 0) := Lib.hid rfl
  generalize r.last = l at *
  generalize r.age = a at *
  generalize r.peer = q at *
  by_cases h0 : peer ≠ q
  · have hb : (peer != q) = true := by simpa using h0
    have HE : Hid (r.refuse now peer stamp = 16) := Lib.hid (by rw [HA.out, if_pos h0])
    clear HA h0
    go_enter Try.func43, Try.ntmps43
    go_wp2
    go_ret
    exact ⟨by rw [HE.out]; rfl, rfl⟩
  · have hb : (peer != q) = false := by simpa using h0
    by_cases h1 : now < stamp
    · have HE : Hid (r.refuse now peer stamp = 19) := Lib.hid (by rw [HA.out, if_neg h0, if_pos h1])
      clear HA h0
      go_enter Try.func43, Try.ntmps43
      go_wp2
      go_ret
      exact ⟨by rw [HE.out]; rfl, rfl⟩
    · have hw : wrap64 (now - stamp) = now - stamp := IntWalk.wrap64_in _ ⟨by omega, by omega⟩
      by_cases h2 : a < now - stamp
      · have HE : Hid (r.refuse now peer stamp = 17) := Lib.hid (by rw [HA.out, if_neg h0, if_neg h1, if_pos h2])
        clear HA h0
        go_enter Try.func43, Try.ntmps43
        go_wp2
        go_ret
        exact ⟨by rw [HE.out]; rfl, rfl⟩
      · by_cases h3 : stamp ≤ l
        · have HE : Hid (r.refuse now peer stamp = 18) := Lib.hid (by rw [HA.out, if_neg h0, if_neg h1, if_neg h2, if_pos h3])
          clear HA h0
          go_enter Try.func43, Try.ntmps43
          go_wp2
          go_ret
          exact ⟨by rw [HE.out]; rfl, rfl⟩
        · have HE : Hid (r.refuse now peer stamp = 0) := Lib.hid (by rw [HA.out, if_neg h0, if_neg h1, if_neg h2, if_neg h3])
          clear HA h0
          go_enter Try.func43, Try.ntmps43
          go_wp2
          go_ret
          exact ⟨by rw [HE.out]; rfl, rfl⟩

theorem lost_two (a b : Int) : Sq.lostL [a, b] = (Sq.lostStep (0, a) b).1 := rfl
theorem lostStep_bd (a b : Int) : 0 ≤ (Sq.lostStep (0, a) b).1 ∧ (Sq.lostStep (0, a) b).1 ≤ 32767 := by
  have h := Sq.gap_bd a b
  unfold Sq.lostStep
  simp only
  split <;> simp only <;> omega
set_option maxHeartbeats 2000000 in
theorem add_any {w : World} {b : Nat} {r : R} (h : Rv w b r) (n : Int) (hl0 : 0 ≤ r.lost) (hl : r.lost ≤ 4611686018427387904) :
    Calls Try.prog 44 #[.pointer (some ⟨b, 0, none⟩), .int .i64 n] w fun e w' => e = .returned (.tuple #[]) ∧ Rv w' b (r.add n) ∧ Fr (fun k => k = b) w w' := by
  obtain ⟨c0, c1, c2, c3, c4, c5⟩ := rv_cells h
  obtain ⟨bg, nw, ls, pe, ag, la⟩ := r
  simp only at c0 c1 c2 c3 c4 c5 hl0 hl
  cases bg with
  | false =>
    have z0 : w.frozen? ⟨b, 0, none⟩ = false := Is.frozen h 0
    have z1 : w.frozen? ⟨b, 1, none⟩ = false := Is.frozen h 1
    have i2 : Rv ((w.setCell ⟨b, 0, none⟩ (.bool true)).setCell ⟨b, 1, none⟩ (.int .i64 n)) b ((R.mk false nw ls pe ag la).add n) := by
      have := (Is.set h 0 (.bool true)).set 1 (.int .i64 n)
      simpa [rvR, Rv, R.add] using this
    have f2 := ((Fr.refl (fun k => k = b) w).setCell (p := ⟨b, 0, none⟩) (.inl rfl) (.bool true)).setCell (p := ⟨b, 1, none⟩) (.inl rfl) (.int .i64 n)
    have HI := Lib.hid i2
    have HF := Lib.hid f2
    clear i2 f2 h
    go_enter Try.func44, Try.ntmps44
    go_wp2_with fail
    refine bodyPost_ret (results_none rfl _ _ _) rfl ?_
    exact ⟨rfl, HI.out, HF.out⟩
  | true =>
    have hb := lostStep_bd nw n
    have z1 : w.frozen? ⟨b, 1, none⟩ = false := Is.frozen h 1
    have z2 : w.frozen? ⟨b, 2, none⟩ = false := Is.frozen h 2
    have r1 : Rd ((w.drew).alloc (.cells #[.int .i64 nw, .int .i64 n] 3)) (some ⟨w.heap.size, 0, none⟩) ([nw, n].map (Value.int .i64)) := two_rd w.drew (.int .i64 nw) (.int .i64 n) 3
    have KL := Sq.lost_any (c := 2) (l := [nw, n]) r1 (by simp) (by simp)
    rw [lost_two] at KL
    have KN := Sq.newer_any nw n
    have HG : Hid (0 < Sq.gapZ nw n → (Sq.lostStep (0, nw) n).2 = n) := Lib.hid fun h => by unfold Sq.lostStep; rw [if_pos h]
    have HG2 : Hid (Sq.gapZ nw n ≤ 0 → (Sq.lostStep (0, nw) n).2 = nw) := Lib.hid fun h => by unfold Sq.lostStep; rw [if_neg (by simp only; omega)]
    have HA : Hid ((R.mk true nw ls pe ag la).add n = ⟨true, (Sq.lostStep (0, nw) n).2, ls + (Sq.lostStep (0, nw) n).1, pe, ag, la⟩) := Lib.hid rfl
    have f1 := ((Fr.refl (fun _ => False) w).drew).alloc (.cells #[.int .i64 nw, .int .i64 n] 3)
    have i1 : Rv ((w.drew).alloc (.cells #[.int .i64 nw, .int .i64 n] 3)) b ⟨true, nw, ls, pe, ag, la⟩ := Is.alloc h _
    have HF1 := Lib.hid f1
    have HI1 := Lib.hid i1
    have hadd : IntKind.i64.wrap (ls + (Sq.lostStep (0, nw) n).1) = ls + (Sq.lostStep (0, nw) n).1 := IntWalk.i64_in _ (by omega)
    generalize (Sq.lostStep (0, nw) n).1 = k at *
    generalize (Sq.lostStep (0, nw) n).2 = m at *
    have HW := Lib.hid hadd
    clear hadd i1 f1 r1 hb h
    go_enter Try.func44, Try.ntmps44
    go_wp2_with fail
    have k2 : (w.drew).cell? ⟨b, 2, none⟩ = some (.int .i64 ls) := c2
    refine wp_region_held_drew (S := fun Wx => Wx.cell? ⟨b, 1, none⟩ = some (.int .i64 nw)) (by kernel_rfl) c1 (fun hHeld => ?_)
    refine wpAnyH_take (i := 0) (v := ?_) rfl (by kernel_rfl) (by kernel_rfl) (by kernel_rfl) (fun _ _ _ h => h) (Or.inl ⟨by rfl, ?_⟩) (by assumption) ?_
    rotate_left
    · intro Wx hSw
      go_simp
      try with_reducible rfl
    try simp only [Act.put]
    refine wpAnyH_take (i := 1) (v := ?_) rfl (by kernel_rfl) (by kernel_rfl) (by kernel_rfl) (fun _ _ _ h => h) (Or.inl ⟨by rfl, ?_⟩) (by assumption) ?_
    rotate_left
    · intro Wx hSw
      go_simp
      try with_reducible rfl
    try simp only [Act.put]
    refine wpAnyH_take (i := 2) (v := ?_) rfl (by kernel_rfl) (by kernel_rfl) (by kernel_rfl) (fun _ _ _ h => h) (Or.inl ⟨by rfl, ?_⟩) (by assumption) ?_
    rotate_left
    · intro Wx hSw
      go_simp
      try with_reducible rfl
    try simp only [Act.put]
    refine wpAnyH_take (i := 4) (v := ?_) rfl (by kernel_rfl) (by kernel_rfl) (by kernel_rfl) (fun _ _ _ h => h) (Or.inl ⟨by rfl, ?_⟩) (by assumption) ?_
    rotate_left
    · intro Wx hSw
      go_simp
      try with_reducible rfl
    try simp only [Act.put]
    refine wpAnyH_take (i := 5) (v := ?_) rfl (by kernel_rfl) (by kernel_rfl) (by kernel_rfl) (fun _ _ _ h => h) (Or.inl ⟨by rfl, ?_⟩) (by assumption) ?_
    rotate_left
    · intro Wx hSw
      go_simp
      try with_reducible rfl
    try simp only [Act.put]
    refine wpAnyH_take (i := 6) (v := ?_) rfl (by kernel_rfl) (by kernel_rfl) (by kernel_rfl) (fun _ _ _ h => h) (Or.inl ⟨by rfl, ?_⟩) (by assumption) ?_
    rotate_left
    · intro Wx hSw
      go_simp
      try with_reducible rfl
    try simp only [Act.put]
    refine wpAnyH_take (i := 7) (v := ?_) rfl (by kernel_rfl) (by kernel_rfl) (by kernel_rfl) (fun _ _ _ h => h) (Or.inl ⟨by rfl, ?_⟩) (by assumption) ?_
    rotate_left
    · intro Wx hSw
      have h1 := hSw
      go_simp
      try with_reducible rfl
    try simp only [Act.put]
    refine wpAnyH_take (i := 8) (v := ?_) rfl (by kernel_rfl) (by kernel_rfl) (by kernel_rfl) (fun _ _ _ h => h) (Or.inl ⟨by rfl, ?_⟩) (by assumption) ?_
    rotate_left
    · intro Wx hSw
      go_simp
      try with_reducible rfl
    try simp only [Act.put]
    refine wpAnyH_ready (rs := [3, 9]) (by kernel_rfl) (by simp) (AllReadyH.cons rfl (fun K hK => ?_) (AllReadyH.cons rfl (fun K hK => ?_) AllReadyH.nil))
    · go_simp
      refine hK.out _ _ hHeld (fun hHeld => ?_)
      clear hK K
      refine wpAnyH_ready (rs := [9]) (by kernel_rfl) (by simp) (AllReadyH.cons rfl (fun K hK => ?_) AllReadyH.nil)
      go_simp
      refine hK.out _ _ (rv_cells HI1.out).2.1 (fun hHeld => ?_)
      clear hK K
      have k2 : ((w.alloc (.cells #[.int .i64 nw, .int .i64 n] 3)).drew).cell? ⟨b, 2, none⟩ = some (.int .i64 ls) := (rv_cells HI1.out).2.2.1
      refine wpAnyH_ready (rs := [10]) (by kernel_rfl) (by simp) (AllReadyH.cons rfl (fun K hK => ?_) AllReadyH.nil)
      go_simp
      refine KL.mono ?_
      rintro e w2 ⟨rfl, n2, rfl⟩
      have i2 : Rv (((w.drew).alloc (.cells #[.int .i64 nw, .int .i64 n] 3)).drewN n2) b ⟨true, nw, ls, pe, ag, la⟩ := HI1.out
      have HF2 := Lib.hid (HF1.out.drewN n2)
      clear k2 hHeld
      generalize ((w.drew).alloc (.cells #[.int .i64 nw, .int .i64 n] 3)).drewN n2 = w2 at *
      have hHeld : w2.cell? ⟨b, 1, none⟩ = some (.int .i64 nw) := (rv_cells i2).2.1
      have k2 : w2.cell? ⟨b, 2, none⟩ = some (.int .i64 ls) := (rv_cells i2).2.2.1
      go_simp
      refine hK.out _ _ hHeld (fun hHeld => ?_)
      clear hK K
      have hadd := HW.out
      refine wpAnyH_take (i := 11) (v := ?_) rfl (by kernel_rfl) (by kernel_rfl) (by kernel_rfl) (fun _ _ _ h => h) (Or.inl ⟨by rfl, ?_⟩) (by assumption) ?_
      rotate_left
      · intro Wx hSw
        go_simp
        try with_reducible rfl
      try simp only [Act.put]
      clear hadd
      refine wpAnyH_take (i := 12) (v := ?_) rfl (by kernel_rfl) (by kernel_rfl) (by kernel_rfl) (fun _ _ _ h => h) (Or.inl ⟨by rfl, ?_⟩) (by assumption) ?_
      rotate_left
      · intro Wx hSw
        go_simp
        try with_reducible rfl
      try simp only [Act.put]
      refine wpAnyH_take (i := 13) (v := ?_) rfl (by kernel_rfl) (by kernel_rfl) (by kernel_rfl) (fun _ _ _ h => h) (Or.inl ⟨by rfl, ?_⟩) (by assumption) ?_
      rotate_left
      · intro Wx hSw
        go_simp
        try with_reducible rfl
      try simp only [Act.put]
      have y2 : w2.frozen? ⟨b, 2, none⟩ = false := Is.frozen i2 2
      have i3 : Rv (w2.setCell ⟨b, 2, none⟩ (.int .i64 (ls + k))) b ⟨true, nw, ls + k, pe, ag, la⟩ := by
        have := Is.set i2 2 (.int .i64 (ls + k))
        simpa [rvR, Rv] using this
      have HF3 := Lib.hid ((HF2.out.mono fun _ _ h => h.elim).setCell (S := fun k => k = b) (p := ⟨b, 2, none⟩) (.inl rfl) (.int .i64 (ls + k)))
      refine wpAnyH_ready (rs := [14]) (by kernel_rfl) (by simp) (AllReadyH.cons rfl (fun K hK => ?_) AllReadyH.nil)
      go_simp
      refine hK.out _ _ (rv_cells i3).2.1 (fun hHeld => ?_)
      clear hK K
      refine wpAnyH_done (by kernel_rfl) ?_ _
      clear k2 y2 hHeld i2
      generalize w2.setCell ⟨b, 2, none⟩ (.int .i64 (ls + k)) = w3 at *
      have e1 : w3.cell? ⟨b, 1, none⟩ = some (.int .i64 nw) := (rv_cells i3).2.1
      have y1 : w3.frozen? ⟨b, 1, none⟩ = false := Is.frozen i3 1
      by_cases hg : 0 < Sq.gapZ nw n
      · have HM := Lib.hid (HG.out hg)
        have dg : decide (0 < Sq.gapZ nw n) = true := decide_eq_true hg
        have i4 : Rv (w3.setCell ⟨b, 1, none⟩ (.int .i64 n)) b ⟨true, n, ls + k, pe, ag, la⟩ := by
          have := Is.set i3 1 (.int .i64 n)
          simpa [rvR, Rv] using this
        have HI4 := Lib.hid i4
        have HF4 := Lib.hid (HF3.out.setCell (p := ⟨b, 1, none⟩) (.inl rfl) (.int .i64 n))
        rw [dg] at KN
        clear HG HG2 hg dg i4
        go_wp2_with (go_at_call 61; refine (KN _).mono ?_; clear KN; rintro e w4 ⟨rfl, rfl⟩)
        go_end0
        refine ⟨rfl, ?_, HF4.out⟩
        rw [HA.out, HM.out]
        exact HI4.out
      · have HM := Lib.hid (HG2.out (by omega))
        have dg : decide (0 < Sq.gapZ nw n) = false := decide_eq_false hg
        rw [dg] at KN
        clear HG HG2 hg dg
        go_wp2_with (go_at_call 61; refine (KN _).mono ?_; clear KN; rintro e w4 ⟨rfl, rfl⟩)
        go_end0
        refine ⟨rfl, ?_, HF3.out⟩
        rw [HA.out, HM.out]
        exact i3
    · go_simp
      refine hK.out _ _ (rv_cells HI1.out).2.1 (fun hHeld => ?_)
      clear hK K
      have k2 : ((w.alloc (.cells #[.int .i64 nw, .int .i64 n] 3)).drew).cell? ⟨b, 2, none⟩ = some (.int .i64 ls) := (rv_cells HI1.out).2.2.1
      refine wpAnyH_ready (rs := [3, 10]) (by kernel_rfl) (by simp) (AllReadyH.cons rfl (fun K hK => ?_) (AllReadyH.cons rfl (fun K hK => ?_) AllReadyH.nil))
      · go_simp
        refine hK.out _ _ hHeld (fun hHeld => ?_)
        clear hK K
        refine wpAnyH_ready (rs := [10]) (by kernel_rfl) (by simp) (AllReadyH.cons rfl (fun K hK => ?_) AllReadyH.nil)
        go_simp
        refine KL.mono ?_
        rintro e w2 ⟨rfl, n2, rfl⟩
        have i2 : Rv (((w.drew).alloc (.cells #[.int .i64 nw, .int .i64 n] 3)).drewN n2) b ⟨true, nw, ls, pe, ag, la⟩ := HI1.out
        have HF2 := Lib.hid (HF1.out.drewN n2)
        clear k2 hHeld
        generalize ((w.drew).alloc (.cells #[.int .i64 nw, .int .i64 n] 3)).drewN n2 = w2 at *
        have hHeld : w2.cell? ⟨b, 1, none⟩ = some (.int .i64 nw) := (rv_cells i2).2.1
        have k2 : w2.cell? ⟨b, 2, none⟩ = some (.int .i64 ls) := (rv_cells i2).2.2.1
        go_simp
        refine hK.out _ _ hHeld (fun hHeld => ?_)
        clear hK K
        have hadd := HW.out
        refine wpAnyH_take (i := 11) (v := ?_) rfl (by kernel_rfl) (by kernel_rfl) (by kernel_rfl) (fun _ _ _ h => h) (Or.inl ⟨by rfl, ?_⟩) (by assumption) ?_
        rotate_left
        · intro Wx hSw
          go_simp
          try with_reducible rfl
        try simp only [Act.put]
        clear hadd
        refine wpAnyH_take (i := 12) (v := ?_) rfl (by kernel_rfl) (by kernel_rfl) (by kernel_rfl) (fun _ _ _ h => h) (Or.inl ⟨by rfl, ?_⟩) (by assumption) ?_
        rotate_left
        · intro Wx hSw
          go_simp
          try with_reducible rfl
        try simp only [Act.put]
        refine wpAnyH_take (i := 13) (v := ?_) rfl (by kernel_rfl) (by kernel_rfl) (by kernel_rfl) (fun _ _ _ h => h) (Or.inl ⟨by rfl, ?_⟩) (by assumption) ?_
        rotate_left
        · intro Wx hSw
          go_simp
          try with_reducible rfl
        try simp only [Act.put]
        have y2 : w2.frozen? ⟨b, 2, none⟩ = false := Is.frozen i2 2
        have i3 : Rv (w2.setCell ⟨b, 2, none⟩ (.int .i64 (ls + k))) b ⟨true, nw, ls + k, pe, ag, la⟩ := by
          have := Is.set i2 2 (.int .i64 (ls + k))
          simpa [rvR, Rv] using this
        have HF3 := Lib.hid ((HF2.out.mono fun _ _ h => h.elim).setCell (S := fun k => k = b) (p := ⟨b, 2, none⟩) (.inl rfl) (.int .i64 (ls + k)))
        refine wpAnyH_ready (rs := [14]) (by kernel_rfl) (by simp) (AllReadyH.cons rfl (fun K hK => ?_) AllReadyH.nil)
        go_simp
        refine hK.out _ _ (rv_cells i3).2.1 (fun hHeld => ?_)
        clear hK K
        refine wpAnyH_done (by kernel_rfl) ?_ _
        clear k2 y2 hHeld i2
        generalize w2.setCell ⟨b, 2, none⟩ (.int .i64 (ls + k)) = w3 at *
        have e1 : w3.cell? ⟨b, 1, none⟩ = some (.int .i64 nw) := (rv_cells i3).2.1
        have y1 : w3.frozen? ⟨b, 1, none⟩ = false := Is.frozen i3 1
        by_cases hg : 0 < Sq.gapZ nw n
        · have HM := Lib.hid (HG.out hg)
          have dg : decide (0 < Sq.gapZ nw n) = true := decide_eq_true hg
          have i4 : Rv (w3.setCell ⟨b, 1, none⟩ (.int .i64 n)) b ⟨true, n, ls + k, pe, ag, la⟩ := by
            have := Is.set i3 1 (.int .i64 n)
            simpa [rvR, Rv] using this
          have HI4 := Lib.hid i4
          have HF4 := Lib.hid (HF3.out.setCell (p := ⟨b, 1, none⟩) (.inl rfl) (.int .i64 n))
          rw [dg] at KN
          clear HG HG2 hg dg i4
          go_wp2_with (go_at_call 61; refine (KN _).mono ?_; clear KN; rintro e w4 ⟨rfl, rfl⟩)
          go_end0
          refine ⟨rfl, ?_, HF4.out⟩
          rw [HA.out, HM.out]
          exact HI4.out
        · have HM := Lib.hid (HG2.out (by omega))
          have dg : decide (0 < Sq.gapZ nw n) = false := decide_eq_false hg
          rw [dg] at KN
          clear HG HG2 hg dg
          go_wp2_with (go_at_call 61; refine (KN _).mono ?_; clear KN; rintro e w4 ⟨rfl, rfl⟩)
          go_end0
          refine ⟨rfl, ?_, HF3.out⟩
          rw [HA.out, HM.out]
          exact i3
      · go_simp
        refine KL.mono ?_
        rintro e w2 ⟨rfl, n2, rfl⟩
        have i2 : Rv (((w.drew).alloc (.cells #[.int .i64 nw, .int .i64 n] 3)).drewN n2) b ⟨true, nw, ls, pe, ag, la⟩ := HI1.out
        have HF2 := Lib.hid (HF1.out.drewN n2)
        clear k2 hHeld
        generalize ((w.drew).alloc (.cells #[.int .i64 nw, .int .i64 n] 3)).drewN n2 = w2 at *
        have hHeld : w2.cell? ⟨b, 1, none⟩ = some (.int .i64 nw) := (rv_cells i2).2.1
        have k2 : w2.cell? ⟨b, 2, none⟩ = some (.int .i64 ls) := (rv_cells i2).2.2.1
        go_simp
        refine hK.out _ _ hHeld (fun hHeld => ?_)
        clear hK K
        refine wpAnyH_ready (rs := [3]) (by kernel_rfl) (by simp) (AllReadyH.cons rfl (fun K hK => ?_) AllReadyH.nil)
        go_simp
        refine hK.out _ _ hHeld (fun hHeld => ?_)
        clear hK K
        have hadd := HW.out
        refine wpAnyH_take (i := 11) (v := ?_) rfl (by kernel_rfl) (by kernel_rfl) (by kernel_rfl) (fun _ _ _ h => h) (Or.inl ⟨by rfl, ?_⟩) (by assumption) ?_
        rotate_left
        · intro Wx hSw
          go_simp
          try with_reducible rfl
        try simp only [Act.put]
        clear hadd
        refine wpAnyH_take (i := 12) (v := ?_) rfl (by kernel_rfl) (by kernel_rfl) (by kernel_rfl) (fun _ _ _ h => h) (Or.inl ⟨by rfl, ?_⟩) (by assumption) ?_
        rotate_left
        · intro Wx hSw
          go_simp
          try with_reducible rfl
        try simp only [Act.put]
        refine wpAnyH_take (i := 13) (v := ?_) rfl (by kernel_rfl) (by kernel_rfl) (by kernel_rfl) (fun _ _ _ h => h) (Or.inl ⟨by rfl, ?_⟩) (by assumption) ?_
        rotate_left
        · intro Wx hSw
          go_simp
          try with_reducible rfl
        try simp only [Act.put]
        have y2 : w2.frozen? ⟨b, 2, none⟩ = false := Is.frozen i2 2
        have i3 : Rv (w2.setCell ⟨b, 2, none⟩ (.int .i64 (ls + k))) b ⟨true, nw, ls + k, pe, ag, la⟩ := by
          have := Is.set i2 2 (.int .i64 (ls + k))
          simpa [rvR, Rv] using this
        have HF3 := Lib.hid ((HF2.out.mono fun _ _ h => h.elim).setCell (S := fun k => k = b) (p := ⟨b, 2, none⟩) (.inl rfl) (.int .i64 (ls + k)))
        refine wpAnyH_ready (rs := [14]) (by kernel_rfl) (by simp) (AllReadyH.cons rfl (fun K hK => ?_) AllReadyH.nil)
        go_simp
        refine hK.out _ _ (rv_cells i3).2.1 (fun hHeld => ?_)
        clear hK K
        refine wpAnyH_done (by kernel_rfl) ?_ _
        clear k2 y2 hHeld i2
        generalize w2.setCell ⟨b, 2, none⟩ (.int .i64 (ls + k)) = w3 at *
        have e1 : w3.cell? ⟨b, 1, none⟩ = some (.int .i64 nw) := (rv_cells i3).2.1
        have y1 : w3.frozen? ⟨b, 1, none⟩ = false := Is.frozen i3 1
        by_cases hg : 0 < Sq.gapZ nw n
        · have HM := Lib.hid (HG.out hg)
          have dg : decide (0 < Sq.gapZ nw n) = true := decide_eq_true hg
          have i4 : Rv (w3.setCell ⟨b, 1, none⟩ (.int .i64 n)) b ⟨true, n, ls + k, pe, ag, la⟩ := by
            have := Is.set i3 1 (.int .i64 n)
            simpa [rvR, Rv] using this
          have HI4 := Lib.hid i4
          have HF4 := Lib.hid (HF3.out.setCell (p := ⟨b, 1, none⟩) (.inl rfl) (.int .i64 n))
          rw [dg] at KN
          clear HG HG2 hg dg i4
          go_wp2_with (go_at_call 61; refine (KN _).mono ?_; clear KN; rintro e w4 ⟨rfl, rfl⟩)
          go_end0
          refine ⟨rfl, ?_, HF4.out⟩
          rw [HA.out, HM.out]
          exact HI4.out
        · have HM := Lib.hid (HG2.out (by omega))
          have dg : decide (0 < Sq.gapZ nw n) = false := decide_eq_false hg
          rw [dg] at KN
          clear HG HG2 hg dg
          go_wp2_with (go_at_call 61; refine (KN _).mono ?_; clear KN; rintro e w4 ⟨rfl, rfl⟩)
          go_end0
          refine ⟨rfl, ?_, HF3.out⟩
          rw [HA.out, HM.out]
          exact i3
end Go.Proofs.Ytcencpkoimahbaa

/- The contract of act: an act is counted; a cut that comes to it leaves the first bytes, and the power goes. -/
import Derived.Test.YtdoljggaoidljaaGreatAct
namespace Go.Proofs.YtdoljggaoidljaaGreat
open Go.RowKit Go.Maps

theorem at_act {cs : Array Value} {m : Mm} (h : At cs m) (k : Nat) (d : Bool) : At ((cs.setIfInBounds 0 (.int .i64 (k : Nat))).setIfInBounds 3 (.bool d)) { m with acts := k, down := d } := by
  refine ⟨by simp [h.size], ?_, ?_, ?_, ?_, ?_⟩
  · have := h.size
    simp [this]
  · simpa [Array.getElem?_setIfInBounds] using h.armed
  · have := h.size
    simp [this]
  · intro p i hp hi
    rw [Array.getElem?_setIfInBounds_ne (by omega), Array.getElem?_setIfInBounds_ne (by omega)]
    exact h.pg p i hp hi
  · intro p hp
    rw [Array.getElem?_setIfInBounds_ne (by omega), Array.getElem?_setIfInBounds_ne (by omega)]
    exact h.worn p hp
theorem at_acts {cs : Array Value} {m : Mm} (h : At cs m) (k : Nat) : At (cs.setIfInBounds 0 (.int .i64 (k : Nat))) { m with acts := k } := by
  refine ⟨by simp [h.size], ?_, ?_, ?_, ?_, ?_⟩
  · have := h.size
    simp [this]
  · simpa [Array.getElem?_setIfInBounds] using h.armed
  · simpa [Array.getElem?_setIfInBounds] using h.down
  · intro p i hp hi
    rw [Array.getElem?_setIfInBounds_ne (by omega)]
    exact h.pg p i hp hi
  · intro p hp
    rw [Array.getElem?_setIfInBounds_ne (by omega)]
    exact h.worn p hp

theorem World.ownsMap.drewN {H : Type} {P : Program} {k : TypeId} {R : Value → Option (DataW H × List MemPlace)} {w : World} {b n : Nat} {D : DataW H} (h : w.ownsMap P k R b n D) (j : Nat) : (w.drewN j).ownsMap P k R b n D := h
section
variable {w : World} {b : Nat} {r : Option Nat} {m : Mm}

theorem tup_int {a c x : Int} (h : a = c) : Ending.returned (.tuple #[.int .i64 a, .int .i64 x]) = .returned (.tuple #[.int .i64 c, .int .i64 x]) := by rw [h]

theorem cuts_fr {w1 : World} {c : Nat → Option Int} {S : Nat → Prop} (h : Cuts w r c) (f : Fr S w w1) (hr : ∀ k, r = some k → k < w.heap.size ∧ ¬ S k) : Cuts w1 r c := by
  unfold Cuts at h ⊢
  rcases r with _ | k
  · exact h
  · obtain ⟨n, D, ho, hD⟩ := h
    obtain ⟨es, clock, hk, r1⟩ := ho
    exact ⟨n, D, ⟨es, clock, (f.block k (hr k rfl).1 (hr k rfl).2).trans hk, r1⟩, hD⟩

/-- the memory behind an act that no cut came to -/
theorem mem_acts (h : Mem w b r m) (hd : m.down = false) (hh : m.hit = false) (hk : m.acts < 4611686018427387904) : Mem (w.setCell ⟨b, 0, none⟩ (.int .i64 (m.acts + 1 : Nat))) b r m.act ∧ Fr (Foot b r) w (w.setCell ⟨b, 0, none⟩ (.int .i64 (m.acts + 1 : Nat))) := by
  obtain ⟨cs, h1, h2, h3⟩ := h.ex
  have f := (Fr.refl (fun j => j = b) w).setCell (p := ⟨b, 0, none⟩) (.inl rfl) (.int .i64 (m.acts + 1 : Nat))
  have e : m.act = { m with acts := m.acts + 1 } := by unfold Mm.act; rw [hh, ← hd]
  have hl := h.lo
  refine ⟨?_, f.mono fun j _ hj => .inl hj⟩
  rw [e]
  refine ⟨⟨_, h1.set 0 _, at_acts h2 (m.acts + 1), by rw [Array.getElem?_setIfInBounds_ne (by omega)]; exact h3⟩, fun _ => cuts_fr (h.cut hd) f fun k hk => ⟨h.lt k hk, fun e => h.ne (by rw [hk, e])⟩, by show m.armed ≤ m.acts + 1; omega, by show m.acts + 1 ≤ _; omega, h.ne, fun k hk => Nat.lt_of_lt_of_le (h.lt k hk) f.size⟩

/-- the memory behind an act to which a cut came -/
theorem mem_hit {k : Nat} {w1 : World} (h : Mem w b (some k) m) (hh : m.hit = true) (hk : m.acts < 4611686018427387904) (ht : (w.setCell ⟨b, 0, none⟩ (.int .i64 (m.acts + 1 : Nat))).mapTurned w1 k) :
    Mem (w1.setCell ⟨b, 3, none⟩ (.bool true)) b (some k) m.act ∧ Fr (Foot b (some k)) w (w1.setCell ⟨b, 3, none⟩ (.bool true)) ∧ (∃ u, w1.cell? ⟨b, 3, none⟩ = some u) ∧ w1.frozen? ⟨b, 3, none⟩ = false ∧ w1.frozen? ⟨b, 0, none⟩ = false := by
  obtain ⟨cs, h1, h2, h3⟩ := h.ex
  have hne : b ≠ k := fun e => h.ne (by rw [e])
  have f := (Fr.refl (Foot b (some k)) w).setCell (p := ⟨b, 0, none⟩) (.inl (.inl rfl)) (.int .i64 (m.acts + 1 : Nat))
  have f1 := f.grown ht.grown fun j hj => by injection hj with hj; exact .inl (.inr (by rw [hj]))
  have i1 : Is w1 b 62 (cs.setIfInBounds 0 (.int .i64 (m.acts + 1 : Nat))) := (h1.set 0 _).fr ((Fr.refl (fun j => j = k) _).grown ht.grown fun j hj => by injection hj with hj; exact .inl hj.symm) hne
  have f2 := f1.setCell (p := ⟨b, 3, none⟩) (.inl (.inl rfl)) (.bool true)
  have e : m.act = { m with acts := m.acts + 1, down := true } := by unfold Mm.act; rw [hh]
  have hl := h.lo
  refine ⟨?_, f2, ⟨_, i1.cell 3 |>.trans (Array.getElem?_eq_getElem (by simp [h2.size]))⟩, i1.frozen 3, i1.frozen 0⟩
  rw [e]
  exact ⟨⟨_, i1.set 3 _, at_act h2 (m.acts + 1) true, by rw [Array.getElem?_setIfInBounds_ne (by omega), Array.getElem?_setIfInBounds_ne (by omega)]; exact h3⟩, fun hd => (by cases hd), by show m.armed ≤ m.acts + 1; omega, by show m.acts + 1 ≤ _; omega, h.ne, fun j hj => Nat.lt_of_lt_of_le (h.lt j hj) f2.size⟩

theorem wf_nat (i : Nat) (h : i ≤ 4611686018427387904) : (ki (i : Int)).wf = true := by
  simp only [Lit.wf, IntKind.min, IntKind.max, IntKind.signed, IntKind.bits]
  simp
  omega

set_option maxHeartbeats 2000000 in
set_option maxRecDepth 100000 in
theorem act_any (h : Mem w b r m) (hd : m.down = false) (hk : m.acts < 4611686018427387904) (n : Nat) (hn : n ≤ 4096) :
    Calls Tryz.prog 77 #[.pointer (some ⟨b, 0, none⟩), .int .i64 (n : Nat)] w fun e w' => e = .returned (.tuple #[.int .i64 (m.part n : Nat), .int .i64 (m.actE : Nat)]) ∧ Mem w' b r m.act ∧ Fr (Foot b r) w w' := by
  have g0 := h.c0
  have g1 := h.c1
  have g2 := h.c2
  have g3 := h.c3
  have gf := h.frz
  have hlo := h.lo
  obtain ⟨i, hi⟩ : ∃ i : Nat, i = m.acts - m.armed := ⟨_, rfl⟩
  have e0 : (m.acts : Int) - (m.armed : Int) = (i : Int) := by omega
  have hile : i ≤ 4611686018427387904 := by omega
  have hkey := keyOf_int_mk Tryz.underlying3 (wf_nat i hile)
  have HM := Lib.hid h
  have hcut := h.cut hd
  have HA : Hid (m.hit = (m.cut i).isSome) := Lib.hid (by unfold Mm.hit; rw [hi])
  have HE : Hid (m.actE = if m.hit = true then 14 else 0) := Lib.hid rfl
  have HP : Hid (m.part n = match m.cut i with | none => n | some p => min p.toNat n) := Lib.hid (by unfold Mm.part; rw [← hi]; cases m.cut i <;> rfl)
  have HD := Lib.hid hd
  have HI := Lib.hid hi
  clear hi hd
  unfold Cuts at hcut
  rcases r with _ | k
  · have hc := hcut i
    have hh : m.hit = false := by rw [HA.out, hc]; rfl
    have HN : Hid (m.part n = n) := Lib.hid (by rw [HP.out, hc])
    have HZ : Hid (m.actE = 0) := Lib.hid (by rw [HE.out, hh]; rfl)
    have HH := Lib.hid hh
    have hrun := fun W : World => look_nil (w := W) true keyI Tryz.underlying55 (zeroI W) hkey
    clear hcut hc hh h
    go_enter Tryz.func77, Tryz.ntmps77
    go_wp2_with fail
    go_quiet (fail)
    go_wp2_with fail
    go_ret2
    obtain ⟨M, F⟩ := mem_acts (HM.out.none ((Fr.refl _ w).drewN nq)) HD.out HH.out hk
    exact ⟨by rw [HN.out, HZ.out]; rfl, M, ((Fr.refl _ w).drewN nq).trans F fun _ _ h => h⟩
  · obtain ⟨nn, D, hown, hD⟩ := hcut
    have hDi := hD i hile
    have hbk : b ≠ k := fun e => HM.out.ne (by rw [e])
    rcases hc : m.cut i with _ | x
    · have hh : m.hit = false := by rw [HA.out, hc]; rfl
      rw [hc] at hDi
      have HN : Hid (m.part n = n) := Lib.hid (by rw [HP.out, hc])
      have HZ : Hid (m.actE = 0) := Lib.hid (by rw [HE.out, hh]; rfl)
      have HH := Lib.hid hh
      have HB := Lib.hid hbk
      have HX : Hid (Maps.has D (ki i) = false) := Lib.hid hDi
      clear hD hDi hc hh h hbk
      go_enter Tryz.func77, Tryz.ntmps77
      go_wp2_with fail
      go_quiet (fail)
      go_wp2_with (at_lookup; refine wpList_lookup_own_ok_int _ rfl _ _ 55 rfl 3 3 .i64 keyI Tryz.underlying55 Tryz.underlying3 (zeroI _) k nn D rfl (World.ownsMap.setCell (World.ownsMap.drewN hown nq) HB.out.symm _) _ _ rfl hkey ?_; intro c hat hwc; rw [HX.out]; clear hat hwc)
      go_ret2
      obtain ⟨M, F⟩ := mem_acts (HM.out.none ((Fr.refl _ w).drewN nq)) HD.out HH.out hk
      exact ⟨by rw [HN.out, HZ.out]; rfl, M, ((Fr.refl _ w).drewN nq).trans F fun _ _ h => h⟩
    · have hh : m.hit = true := by rw [HA.out, hc]; rfl
      rw [hc] at hDi
      obtain ⟨hx1, hx2, hx3⟩ := hDi
      have HN : Hid (m.part n = min x.toNat n) := Lib.hid (by rw [HP.out, hc])
      have HZ : Hid (m.actE = 14) := Lib.hid (by rw [HE.out, hh]; rfl)
      have HH := Lib.hid hh
      have HB := Lib.hid hbk
      have HX : Hid (Maps.has D (ki i) = true) := Lib.hid hx1
      have HY := Lib.hid hx2
      clear hD hc hh h hbk hx1 hx2
      go_enter Tryz.func77, Tryz.ntmps77
      go_wp2_with fail
      go_quiet (fail)
      go_wp2_with (first
        | (at_lookup; refine wpList_lookup_own_ok_int _ rfl _ _ 55 rfl 3 3 .i64 keyI Tryz.underlying55 Tryz.underlying3 (zeroI _) k nn D rfl (World.ownsMap.setCell (World.ownsMap.drewN hown nq) HB.out.symm _) _ _ rfl hkey ?_; intro c hat hwc; rw [HX.out])
        | (at_delete; refine wpList_delete_own _ rfl _ _ 55 3 rfl 3 keyI Tryz.underlying55 (plainElem Tryz.prog 3) k nn D rfl (World.ownsMap.setCell (World.ownsMap.drewN hown nq) HB.out.symm _) _ _ rfl hkey ?_; intro w1 hown1 hturn1; obtain ⟨M, F, ⟨u3, q3⟩, f3, f0⟩ := mem_hit (HM.out.none ((Fr.refl _ w).drewN nq)) HH.out hk hturn1))
      all_goals
        go_ret2
        have hcx : c = x := by
          have q := hat.symm.trans HY.out
          injection q with q
          injection q
        subst hcx
        refine ⟨?_, M, ((Fr.refl _ w).drewN nq).trans F fun _ _ h => h⟩
        rw [HZ.out]
        exact tup_int (by rw [HN.out]; omega)
end
end Go.Proofs.YtdoljggaoidljaaGreat

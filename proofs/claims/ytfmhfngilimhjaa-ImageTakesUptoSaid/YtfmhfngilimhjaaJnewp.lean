/- The document's image: New, its walk. -/
import Derived.Test.YtfmhfngilimhjaaJnew
import Derived.Deep.RegionLaw
namespace Go.Proofs.Ytfmhfngilimhjaa.Im
open Go.RowKit Li

theorem rd_iz {w : World} {b : Nat} {t : TypeId} {xs : List Value} (h : Is w b t xs.toArray) : Rd w (some ⟨b, 0, none⟩) xs := fun _ =>
  ⟨b, 0, rfl, h.lt, fun j u hu => by
    rw [Nat.zero_add, h.cell, ← hu, List.getElem?_toArray]⟩
theorem enters_rnew (args : Array Value) (w : World) : (callFunc 41 args).run Try.prog w = .ok (.enter 41 args) w := by
  have h := Try.func41
  go_simp
set_option maxRecDepth 100000 in
set_option maxHeartbeats 8000000 in
theorem jnew_any {C : Te.Cf} {w : World} :
    Calls Try.prog 14 #[C.val] w fun e w' => ∃ (b : Nat) (vR vS vZ : Value) (rbs : List Nat), e = .returned (.pointer (some ⟨b, 0, none⟩)) ∧ rbs.length = 4 ∧ Bl w' w.heap.size b C vR vS vZ rbs 4 4 ∧ Fr (fun _ => False) w w' := by
  have KN := fun (peer : Int) (W : World) => rnewx peer C.t.age W w.heap.size
  unfold Te.Cf.val Te.Cf.cells
  have ic := (Is.new w 30 #[.slice C.A1 C.l.length C.c1, .slice C.A2 C.n2 C.c2, .slice C.A3 C.sg.length C.c3, .slice C.A4 C.cr.length C.c4, .slice C.A5 C.n5 C.c5, .int .i64 C.t.age, .int .i64 C.t.brake, .int .i64 C.t.hold, .int .i64 C.t.budget]).alloc (.cells #[.slice C.A1 C.l.length C.c1, .slice C.A2 C.n2 C.c2, .slice C.A3 C.sg.length C.c3, .slice C.A4 C.cr.length C.c4, .slice C.A5 C.n5 C.c5, .int .i64 C.t.age, .int .i64 C.t.brake, .int .i64 C.t.hold, .int .i64 C.t.budget, .slice none 0 0, .slice none 0 0, .slice none 0 0] 98)
  have ib := Is.new (w.alloc (.cells #[.slice C.A1 C.l.length C.c1, .slice C.A2 C.n2 C.c2, .slice C.A3 C.sg.length C.c3, .slice C.A4 C.cr.length C.c4, .slice C.A5 C.n5 C.c5, .int .i64 C.t.age, .int .i64 C.t.brake, .int .i64 C.t.hold, .int .i64 C.t.budget] 30)) 98 #[.slice C.A1 C.l.length C.c1, .slice C.A2 C.n2 C.c2, .slice C.A3 C.sg.length C.c3, .slice C.A4 C.cr.length C.c4, .slice C.A5 C.n5 C.c5, .int .i64 C.t.age, .int .i64 C.t.brake, .int .i64 C.t.hold, .int .i64 C.t.budget, .slice none 0 0, .slice none 0 0, .slice none 0 0]
  simp only [World.size_alloc] at ib
  have fa := ((Fr.refl (fun _ => False) w).alloc (.cells #[.slice C.A1 C.l.length C.c1, .slice C.A2 C.n2 C.c2, .slice C.A3 C.sg.length C.c3, .slice C.A4 C.cr.length C.c4, .slice C.A5 C.n5 C.c5, .int .i64 C.t.age, .int .i64 C.t.brake, .int .i64 C.t.hold, .int .i64 C.t.budget] 30)).alloc (.cells #[.slice C.A1 C.l.length C.c1, .slice C.A2 C.n2 C.c2, .slice C.A3 C.sg.length C.c3, .slice C.A4 C.cr.length C.c4, .slice C.A5 C.n5 C.c5, .int .i64 C.t.age, .int .i64 C.t.brake, .int .i64 C.t.hold, .int .i64 C.t.budget, .slice none 0 0, .slice none 0 0, .slice none 0 0] 98)
  obtain ⟨s0, s1, s2, s3, s4, s5, s6, s7, s8⟩ := Te.nine_cells (Is.new w 30 #[.slice C.A1 C.l.length C.c1, .slice C.A2 C.n2 C.c2, .slice C.A3 C.sg.length C.c3, .slice C.A4 C.cr.length C.c4, .slice C.A5 C.n5 C.c5, .int .i64 C.t.age, .int .i64 C.t.brake, .int .i64 C.t.hold, .int .i64 C.t.budget])
  obtain ⟨cb, hcb⟩ : ∃ cb, cb = w.heap.size := ⟨_, rfl⟩
  obtain ⟨b, hb⟩ : ∃ b, b = w.heap.size + 1 := ⟨_, rfl⟩
  rw [← hcb] at ic
  rw [← hb] at ib
  have HCB : Hid (cb = w.heap.size ∧ b = w.heap.size + 1) := Lib.hid ⟨hcb, hb⟩
  have HB0 : Hid (Bl _ w.heap.size b C (.slice none 0 0) (.slice none 0 0) (.slice none 0 0) [] 0 0) := Lib.hid ⟨ib, by omega, World.ownsRow_nil _ _ _ _, World.ownsRow_nil _ _ _ _, World.ownsRow_nil _ _ _ _, fun j hj => absurd hj (Nat.not_lt_zero j), List.nodup_nil⟩
  have HIC := Lib.hid ic
  have HFA := Lib.hid fa
  clear ic ib fa
  go_enter Try.func14, Try.ntmps14
  go_wp2_with fail
  rw [← hb, ← hcb]
  clear hb hcb s0 s1 s2 s3 s4 s5 s6 s7 s8
  generalize (w.alloc _).alloc _ = w2 at *
  go_loopw [4] (fun v4 wr => ∃ (vR vS vZ : Value) (rbs : List Nat), rbs.length ≤ 4 ∧ v4 = .int .i64 (rbs.length : Nat) ∧ Bl wr w.heap.size b C vR vS vZ rbs rbs.length rbs.length ∧ Is wr cb 30 #[.slice C.A1 C.l.length C.c1, .slice C.A2 C.n2 C.c2, .slice C.A3 C.sg.length C.c3, .slice C.A4 C.cr.length C.c4, .slice C.A5 C.n5 C.c5, .int .i64 C.t.age, .int .i64 C.t.brake, .int .i64 C.t.hold, .int .i64 C.t.budget] ∧ Fr (fun _ => False) w wr) (fun v _ => 4 - (intOf v).toNat)
  case atStart => exact ⟨_, _, _, [], Nat.zero_le _, rfl, HB0.out, HIC.out, HFA.out⟩
  case round =>
    clear HB0 HIC HFA
    obtain ⟨vR, vS, vZ, rbs, h4, rfl, hb, hc, fr⟩ := hrel
    by_cases hlt : rbs.length < 4
    · have hii : (rbs.length : Int) < 4 := by omega
      obtain ⟨aR, cR, hvR, _, _, _, _⟩ := wide_form hb.oR
      obtain ⟨aS, cS, hvS, _, _, _, _⟩ := wide_form hb.oS
      obtain ⟨aZ, cZ, hvZ, _, _, _, _⟩ := wide_form hb.oZ
      subst hvR hvS hvZ
      have HB := Lib.hid hb
      have HC := Lib.hid hc
      have HF := Lib.hid fr
      clear hb hc fr
      obtain ⟨n, hn⟩ : ∃ n, n = rbs.length := ⟨_, rfl⟩
      have HNN := Lib.hid hn
      rw [← hn] at HB ⊢ hii hlt h4
      clear hn
      obtain ⟨wa, rfl⟩ : ∃ wa, wa = wr := ⟨_, rfl⟩
      go_upto_region 5 with fail
      have HCN : Hid (¬ (cb = b ∨ (Value.slice aR n cR).ownBlock = some cb)) := Lib.hid fun hq => by
        rcases hq with h | h
        · have := HCB.out
          omega
        · exact wide_is_ne HB.out.oR HC.out (by decide) h
      have HNW : Hid (∀ x ∈ rbs, x ≠ wa.heap.size) := Lib.hid fun x hx e => by
        obtain ⟨j, hj, rfl⟩ := List.getElem_of_mem hx
        have := (HB.out.mx j hj).2.lt.1
        omega
      have KN1 : Calls Try.prog 41 #[.int .i64 (n : Int), .int .i64 C.t.age] wa.drew fun e w' => e = .returned (.pointer (some ⟨wa.heap.size, 0, none⟩)) ∧ Mx w' w.heap.size wa.heap.size 0 (.slice none 0 0) (R.new (n : Int) C.t.age) ∧ Fr (fun _ => False) wa.drew w' ∧ wa.heap.size < w'.heap.size := KN (n : Int) wa.drew
      obtain ⟨i0, hi0, hz0, hz1, hz2⟩ := info_parts Try.infoPr
      have b9 : wa.drew.cell? ⟨b, 9, none⟩ = some (.slice aR n cR) := (twelve HB.out.is).2.2.2.2.2.2.2.2.2.1
      have c5 : wa.drew.cell? ⟨cb, 5, none⟩ = some (.int .i64 C.t.age) := (Te.nine_cells HC.out).2.2.2.2.2.1
      have b9d := (twelve (HB.out.fr0 ((Fr.refl (fun _ => False) wa).drew)).is).2.2.2.2.2.2.2.2.2.1
      go_region_law (first
        | (refine step_calln rfl 41 #[.tmp 17, .tmp 20] #[3, 3] rfl enters_rnew #[.int .i64 (n : Int), .int .i64 C.t.age] (by simp [Act.eval]) (KN1.mono ?_); rintro e w1 ⟨rfl, m1, f1, l1⟩; refine ⟨_, rfl, ?_⟩; have h1 := (HB.out.fr0 ((Fr.refl (fun _ => False) wa).drew)).fr0 f1; have b91 := (twelve h1.is).2.2.2.2.2.2.2.2.2.1; have h2 := h1.fr0 ((Fr.refl (fun _ => False) w1).alloc (.cells #[.pointer (some ⟨wa.heap.size, 0, none⟩)] 99)); have m2 := m1.fr ((Fr.refl (fun _ => False) w1).alloc (.cells #[.pointer (some ⟨wa.heap.size, 0, none⟩)] 99)) id fun _ _ => id; have b92 := (twelve h2.is).2.2.2.2.2.2.2.2.2.1)
        | (refine step_append_wide _ rfl (.tmp 16) (.tmp 22) 95 rfl w.heap.size 99 i0 _ 1 8 Try.underlying95 hi0 hz0 hz1 hz2 rfl (by decide) (.slice aR n cR) n (rbs.map fun r => .pointer (some ⟨r, 0, none⟩)) (by simp [Act.eval]) (HNN.out ▸ h2.oR) (some ⟨w1.heap.size, 0, none⟩) 1 1 [.pointer (some ⟨wa.heap.size, 0, none⟩)] rfl (by simp [Act.eval]) (Rd.one _ _ _) (by intro u hu; simp at hu; subst hu; rfl) (by unfold maxLen; omega) (by omega) (by have := HF.out.size; have := f1.size; simp at *; omega) ?_; intro v' w5 hown hg hat; obtain ⟨aR', cR', hv5, _, _, _, _⟩ := wide_form hown; subst hv5; have i5 := h2.is.fr ((Fr.refl (fun q => (Value.slice aR n cR).ownBlock = some q) _).grown hg fun _ hk => .inl hk) (fun hq => wide_is_ne h2.oR h2.is (by decide) hq); have b95 := (twelve i5).2.2.2.2.2.2.2.2.2.1; have z95 := i5.frozen 9; have P5 := Bl.putR h2 HNN.out HF.out.size m2 HNW.out hown hg))
      all_goals
        have F5 := ((((Fr.refl (fun _ => False) wa).drew.trans f1 fun _ _ h => h).alloc (.cells #[.pointer (some ⟨wa.heap.size, 0, none⟩)] 99)).mono (S' := fun q => q = b ∨ (Value.slice aR n cR).ownBlock = some q) fun _ _ h => h.elim).trans P5.2 fun _ _ h => h
        have HP := Lib.hid P5.1
        have HLO := Lib.hid HB.out.lo.1
        have HC5 := Lib.hid (HC.out.fr F5 HCN.out)
        have HF5 := Lib.hid (HF.out.trans F5 fun q hq h => by have := HLO.out q h; omega)
        clear F5 P5 i5 b95 z95 hown hg hat h1 h2 m1 m2 f1 b91 b92 b9 b9d c5 HLO HNW HCN hi0 hz0 hz1 hz2 l1 KN1
        generalize World.setCell _ _ _ = wc at *
        have HB5 := HP
        clear HP
        obtain ⟨r, hr⟩ : ∃ r, r = wa.heap.size := ⟨_, rfl⟩
        rw [← hr] at HB5
        clear hr
        have hb5 := HB5.out
        have hlen : (rbs ++ [r]).length = n + 1 := by rw [List.length_append]; simp [HNN.out]
        have HLEN := Lib.hid hlen
        obtain ⟨i1, hi1, hy0, hy1, hy2⟩ := info_parts Try.infoSt
        obtain ⟨i2, hi2, hx0, hx1, hx2⟩ := info_parts Try.infoI
        obtain ⟨_, _, _, _, _, _, _, _, _, t9, t10, t11⟩ := twelve hb5.is
        clear HB HC HF hb5 hlen
        have fal := (Fr.refl (fun _ => False) wc).alloc (.cells #[.slice none 0 0, .slice none 0 0, .slice none 0 0, .slice none 0 0] 65)
        have HB6 := Lib.hid (HB5.out.fr0 fal)
        have HSZ : Hid (w.heap.size ≤ (wc.alloc (.cells #[.slice none 0 0, .slice none 0 0, .slice none 0 0, .slice none 0 0] 65)).heap.size) := Lib.hid (Nat.le_trans HF5.out.size fal.size)
        go_upto_region 7 with (at_builtin; refine wpList_append_wide _ rfl (.tmp 30) (.tmp 32) 96 rfl w.heap.size 65 i1 _ 4 96 Try.underlying96 hi1 hy0 hy1 hy2 rfl (by decide) (.slice aS n cS) n (nils n) rfl HB6.out.oS (some ⟨wc.heap.size, 0, none⟩) 1 1 [.slice none 0 0, .slice none 0 0, .slice none 0 0, .slice none 0 0] rfl rfl (rd_iz (Is.new wc 65 #[.slice none 0 0, .slice none 0 0, .slice none 0 0, .slice none 0 0])) (by intro u hu; simp at hu; subst hu; rfl) (by unfold maxLen; omega) (by omega) HSZ.out ?_; intro v6 w6 hown hg hat; obtain ⟨aS', cS', hv6, _, _, _, _⟩ := wide_form hown; subst hv6; have i6 := HB6.out.is.fr ((Fr.refl (fun q => (Value.slice aS n cS).ownBlock = some q) _).grown hg fun _ hk => .inl hk) (fun hq => wide_is_ne HB6.out.oS HB6.out.is (by decide) hq); have b610 := (twelve i6).2.2.2.2.2.2.2.2.2.2.1; have z610 := i6.frozen 10; have P6 := Bl.putS HB6.out hown hg; clear hown hg hat i6)
        have HP6 := Lib.hid P6.1
        have HF6 := Lib.hid (HF5.out.trans ((fal.mono fun _ _ h => h.elim).trans P6.2 fun _ _ h => h) fun q hq h => by have := HB6.out.lo.2.1 q h; omega)
        have HC6 := Lib.hid ((HC5.out.fr fal id).fr P6.2 fun hq => by
          rcases hq with h | h
          · have := HCB.out
            omega
          · exact wide_is_ne HB6.out.oS (HC5.out.fr fal id) (by decide) h)
        clear P6 fal HB6 HSZ b610 z610 t9 t10 t11 HB5 HC5 HF5
        generalize World.setCell _ _ _ = w7 at *
        obtain ⟨_, _, _, _, _, _, _, _, _, t9, t10, t11⟩ := twelve HP6.out.is
        have fal := (Fr.refl (fun _ => False) w7).alloc (.cells #[.int .i64 (-1)] 3)
        have HB6 := Lib.hid (HP6.out.fr0 fal)
        have HSZ : Hid (w.heap.size ≤ (w7.alloc (.cells #[.int .i64 (-1)] 3)).heap.size) := Lib.hid (Nat.le_trans HF6.out.size fal.size)
        have m11 := (twelve HB6.out.is).2.2.2.2.2.2.2.2.2.2.2
        go_wp2_with (at_builtin; refine wpList_append_wide _ rfl (.tmp 40) (.tmp 41) 25 rfl w.heap.size 3 i2 _ 1 8 Try.underlying25 hi2 hx0 hx1 hx2 rfl (by decide) (.slice aZ n cZ) n (List.replicate n (.int .i64 (-1))) rfl HB6.out.oZ (some ⟨w7.heap.size, 0, none⟩) 1 1 [.int .i64 (-1)] rfl rfl (rd_iz (Is.new w7 3 #[.int .i64 (-1)])) (by intro u hu; simp at hu; subst hu; rfl) (by unfold maxLen; omega) (by omega) HSZ.out ?_; intro v6 w6 hown hg hat; obtain ⟨aZ', cZ', hv6, _, _, _, _⟩ := wide_form hown; subst hv6; have i6 := HB6.out.is.fr ((Fr.refl (fun q => (Value.slice aZ n cZ).ownBlock = some q) _).grown hg fun _ hk => .inl hk) (fun hq => wide_is_ne HB6.out.oZ HB6.out.is (by decide) hq); have b611 := (twelve i6).2.2.2.2.2.2.2.2.2.2.2; have z611 := i6.frozen 11; have P6 := Bl.putZ HB6.out hown hg; clear hown hg hat i6)
        have HP7 := Lib.hid P6.1
        have HF7 := Lib.hid (HF6.out.trans ((fal.mono fun _ _ h => h.elim).trans P6.2 fun _ _ h => h) fun q hq h => by have := HB6.out.lo.2.2 q h; omega)
        have HC7 := Lib.hid ((HC6.out.fr fal id).fr P6.2 fun hq => by
          rcases hq with h | h
          · have := HCB.out
            omega
          · exact wide_is_ne HB6.out.oZ (HC6.out.fr fal id) (by decide) h)
        clear P6
        go_roundw
        case rel => exact ⟨_, _, _, rbs ++ [r], by rw [HLEN.out]; omega, by rw [HLEN.out]; go_num, by rw [HLEN.out]; exact HP7.out, HC7.out, HF7.out⟩
        case measure => simp [intOf]; omega
    · have hee : rbs.length = 4 := by omega
      have hii : ¬ (rbs.length : Int) < 4 := by omega
      have HB := Lib.hid hb
      have HF := Lib.hid fr
      rw [hee] at HB
      clear hb hc fr
      go_wp2_with fail
      go_ret
      exact ⟨b, rfl, vR, vS, vZ, rbs, hee, HB.out, HF.out⟩
end Go.Proofs.Ytfmhfngilimhjaa.Im

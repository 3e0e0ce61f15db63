/- The walk of CellsCount. -/
import Derived.Test.YtafhkhkpknipmaaFree
import Derived.Deep.LoopGhost
import Derived.Deep.CutRange
namespace Go.Proofs.Ytafhkhkpknipmaa
open Go.RowKit Go.Maps

/-- up, no cut armed, at most k acts -/
structure Calm (m : Mm) (k : Nat) : Prop where
  up : m.down = false
  cut : ∀ i, m.cut i = none
  acts : m.acts ≤ k
  worn : ∀ p, m.worn p ≤ k
theorem calm_new : Calm Mm.new 0 := ⟨rfl, fun _ => rfl, Nat.le_refl _, fun _ => Nat.le_refl _⟩
theorem Calm.erase {m : Mm} {k p : Nat} (h : Calm m k) (hp : p < 24) : m.eraseE (p : Int) = 0 ∧ Calm (m.eraseM (p : Int)) (k + 1) ∧ (m.eraseM (p : Int)).acts = m.acts + 1 ∧ ∀ q, (m.eraseM (p : Int)).worn q = if q = p then m.worn q + 1 else m.worn q := by
  obtain ⟨h1, h2⟩ := erase_free h.up (hit_none h.cut) hp
  refine ⟨h1, ?_, by rw [h2], fun q => by rw [h2]⟩
  rw [h2]
  refine ⟨h.up, h.cut, by have := h.acts; show m.acts + 1 ≤ _; omega, fun q => ?_⟩
  have := h.worn q
  show (if q = p then m.worn q + 1 else m.worn q) ≤ _
  split <;> omega
theorem Calm.step {m : Mm} {k : Nat} (h : Calm m k) : Calm m (k + 1) := ⟨h.up, h.cut, Nat.le_succ_of_le h.acts, fun p => Nat.le_succ_of_le (h.worn p)⟩
theorem erase_bad {m : Mm} (h : m.down = false) {p : Int} (hp : p < 0 ∨ 24 ≤ p) : m.eraseE p = 20 ∧ m.eraseM p = m := by
  have hs : m.spotE p 0 4096 = 20 := by
    unfold Mm.spotE
    rw [if_neg (by rw [h]; decide), if_pos (by omega)]
  have := eraseE_no (m := m) (p := p) (by rw [hs]; decide)
  rw [hs] at this
  exact this
theorem burn_bad {m : Mm} (h : m.down = false) {p a : Int} (ha : a < 0 ∨ 4096 < a) (t : List UInt8) : m.burnE p a t = 20 ∧ m.burnM p a t = m := by
  have hs : m.spotE p a t.length = 20 := by
    unfold Mm.spotE
    rw [if_neg (by rw [h]; decide), if_pos (by omega)]
  have := burnE_no (m := m) (p := p) (a := a) (t := t) (by rw [hs]; decide)
  rw [hs] at this
  exact this

theorem tmod_page (x : Int) : ∃ p : Int, wrap64 (x.tmod 30 - 2) = p ∧ -40 ≤ p ∧ p ≤ 40 := by
  have h : -30 ≤ x.tmod 30 ∧ x.tmod 30 ≤ 30 := by
    have h1 := Int.tmod_lt_of_pos x (show (0 : Int) < 30 by decide)
    have h2 := Int.lt_tmod_of_pos x (show (0 : Int) < 30 by decide)
    omega
  exact ⟨x.tmod 30 - 2, IntWalk.wrap64_in _ ⟨by omega, by omega⟩, by omega, by omega⟩

/-- a row of how often each page was worn -/
def RowW (w : World) (b : Nat) (f : Nat → Nat) : Prop := ∃ cs, Is w b 3 cs ∧ cs.size = 24 ∧ ∀ p, p < 24 → cs[p]? = some (.int .i64 (f p : Nat))
theorem RowW.fr {S : Nat → Prop} {w w1 : World} {b : Nat} {f : Nat → Nat} (h : RowW w b f) (k : Fr S w w1) (hb : ¬ S b) : RowW w1 b f := by
  obtain ⟨cs, h1, h2⟩ := h
  exact ⟨cs, h1.fr k hb, h2⟩
theorem RowW.cell {w : World} {b : Nat} {f : Nat → Nat} (h : RowW w b f) {p : Nat} (hp : p < 24) : w.cell? ⟨b, p, none⟩ = some (.int .i64 (f p : Nat)) := by
  obtain ⟨cs, h1, h2, h3⟩ := h
  exact (h1.cell p).trans (h3 p hp)
theorem RowW.frz {w : World} {b : Nat} {f : Nat → Nat} (h : RowW w b f) (p : Nat) : w.frozen? ⟨b, p, none⟩ = false := by
  obtain ⟨cs, h1, h2, h3⟩ := h
  exact h1.frozen p
theorem RowW.lt {w : World} {b : Nat} {f : Nat → Nat} (h : RowW w b f) : b < w.heap.size := by
  obtain ⟨cs, h1, h2, h3⟩ := h
  exact h1.lt
theorem RowW.set {w : World} {b : Nat} {f g : Nat → Nat} (h : RowW w b f) {p : Nat} (hp : p < 24) (hg : ∀ q, g q = if q = p then f q + 1 else f q) : RowW (w.setCell ⟨b, p, none⟩ (.int .i64 ((f p : Int) + 1))) b g := by
  obtain ⟨cs, h1, h2, h3⟩ := h
  refine ⟨_, h1.set p _, by simp [h2], fun q hq => ?_⟩
  rw [hg q]
  by_cases e : q = p
  · subst e
    rw [if_pos rfl, Array.getElem?_setIfInBounds_self_of_lt (by omega)]
    rfl
  · rw [if_neg e, Array.getElem?_setIfInBounds_ne (by omega)]
    exact h3 q hq

theorem same_flip {P : Program} {f : FuncId} {args : Array Value} {w : World} {e0 : Ending} (h : Calls P f args w fun e w' => e = e0 ∧ w = w') : Calls P f args w fun e w' => e = e0 ∧ w' = w := h.mono fun _ _ ⟨he, hw⟩ => ⟨he, hw.symm⟩

set_option maxRecDepth 100000 in
set_option maxHeartbeats 8000000 in
theorem count_walk {A : Option Addr} {c : Nat} (l : List Int) (hlen : l.length * 8 ≤ 140737488351232) (w : World) (hA : Rd w A (l.map (Value.int .i64))) :
    Calls Try.prog 7 #[.slice A l.length c] w fun e w' => e = .returned (.bool true) ∧ Below w.heap.size w w' := by
  go_enter Try.func7, Try.ntmps7
  go_wp2_with fail
  refine (lives_any w).mono ?_
  rintro e w1 ⟨rfl, F1⟩
  have G1 := Lib.hid F1
  clear F1
  go_wp2_with fail
  refine (new_any _).mono ?_
  rintro e w2 ⟨rfl, M2, F2⟩
  obtain ⟨b, hb⟩ : ∃ b, b = w1.heap.size := ⟨_, rfl⟩
  have hb0 : w.heap.size ≤ b := by have := G1.out.size; omega
  rw [← hb] at M2 ⊢
  have G2 := Lib.hid (fr_nil G1.out F2)
  have N2 := Lib.hid M2
  clear F2 M2 hb G1
  have hmk : ∀ W, (Instr.makeSlice 55 (.int .i64 24) (.int .i64 24)).run Try.prog W = .ok (.slice (some ⟨W.heap.size, 0, none⟩) 24 24) (W.alloc (.cells (Array.replicate 24 (.int .i64 0)) 3)) := fun W => by kernel_rfl
  go_wp2_with fail
  clear hmk
  have R0 : RowW (w2.alloc (.cells (Array.replicate 24 (.int .i64 0)) 3)) w2.heap.size Mm.new.worn := ⟨_, Is.new w2 _ _, by simp, fun p hp => by simp [hp, Mm.new]⟩
  have G3 := Lib.hid (fr_nil G2.out ((Fr.refl (fun _ => False) w2).alloc (.cells (Array.replicate 24 (.int .i64 0)) 3)))
  have N3 := Lib.hid (N2.out.none ((Fr.refl (fun _ => False) w2).alloc (.cells (Array.replicate 24 (.int .i64 0)) 3)))
  have hbg : b ≠ w2.heap.size := by have := N2.out.blt; omega
  have hg0 : w.heap.size ≤ w2.heap.size := G2.out.size
  have R3 := Lib.hid R0
  clear R0 G2 N2
  generalize w2.heap.size = g at *
  go_loopw [4, 6, 7, 8, 9, 10, 18] (fun va _ _ _ _ _ i wr => ∃ k : Nat, k ≤ l.length ∧ i = .int .i64 k ∧ k ≤ 60 ∧ ∃ m : Mm, va = .int .i64 (m.acts : Nat) ∧ Calm m k ∧ Mem wr b none m ∧ RowW wr g m.worn ∧ Fr (fun k => w.heap.size ≤ k) w wr) (fun _ _ _ _ _ _ i _ => l.length - (intOf i).toNat)
  case atStart => exact ⟨0, Nat.zero_le _, rfl, by decide, Mm.new, rfl, calm_new, N3.out, R3.out, G3.out⟩
  case round =>
    clear N3 R3 G3
    obtain ⟨k, hk, rfl, h60, m, rfl, hC, hM, hR, hF⟩ := hrel
    by_cases hlt : k < l.length ∧ k < 60
    · obtain ⟨hlt, h60'⟩ := hlt
      have d60 : decide ((60 : Int) ≤ (k : Int)) = false := by simp; omega
      obtain ⟨ab, o, rfl, hab, hc⟩ := hA (by simp; omega)
      have e1 := hc k (.int .i64 l[k]) (by rw [List.getElem?_map, List.getElem?_eq_getElem hlt]; rfl)
      have c1 : wr.cell? ⟨ab, o + k, none⟩ = some (.int .i64 l[k]) := (hF.cell (p := ⟨ab, o + k, none⟩) hab (by simp; omega)).trans e1
      clear hc e1 hA
      generalize l[k] = x at c1
      have HF := Lib.hid hF
      have HM := Lib.hid hM
      have HR := Lib.hid hR
      have HC := Lib.hid hC
      clear hF hM hR hC
      obtain ⟨p, ep, hp1, hp2⟩ := tmod_page x
      have hgw : g < wr.heap.size := HR.out.lt
      go_upto_region 11 with (fail)
      simp only [ep]
      clear ep
      by_cases hgood : 0 ≤ p ∧ p < 24
      · obtain ⟨q, rfl⟩ : ∃ q : Nat, p = q := ⟨p.toNat, by omega⟩
        have hq : q < 24 := by omega
        obtain ⟨hE, hC1, hA1, hW1⟩ := HC.out.erase hq
        have HC1 := Lib.hid hC1
        have HA1 := Lib.hid hA1
        have HW1 := Lib.hid hW1
        have HE := Lib.hid hE
        have d0 : decide ((0 : Int) ≤ (q : Int)) = true := by simp
        have d1 : decide ((q : Int) < 24) = true := by simp; omega
        have hka := HC.out.acts
        clear hgood hE hC1 hA1 hW1
        go_wp2_with fail
        refine (erase_at HM.out (by omega) (fun p => by have := HC.out.worn p; omega) q (by omega) (by omega) HE.out rfl).mono ?_
        rintro e w5 ⟨rfl, M5, F5⟩
        have HF5 := Lib.hid (fr_foot HF.out F5 hb0 fun k hk => by cases hk)
        have HR5 := Lib.hid (HR.out.fr F5 (fun h => h.elim (fun e => hbg e.symm) fun e => by cases e))
        have HM5 := Lib.hid M5
        clear M5 F5 HF HR HM
        have hwq : m.worn q ≤ 60 := Nat.le_trans (HC.out.worn q) (by omega)
        have r1 := HR5.out.cell hq
        have r2 := HR5.out.frz q
        have hgb : ¬ (fun j => j = g) b := fun e => hbg e
        go_upto_region 18 with (fail)
        have f6 := (Fr.refl (fun j => j = g) w5).setCell (p := ⟨g, q, none⟩) (.inl rfl) (.int .i64 ((m.worn q : Int) + 1))
        have HM6 := Lib.hid (HM5.out.fr f6 hgb fun k hk => by cases hk)
        have HR6 := Lib.hid (HR5.out.set hq HW1.out)
        have HF6 := Lib.hid (fr_one HF5.out f6 hg0)
        have hz6 : (w5.setCell ⟨g, q, none⟩ (.int .i64 ((m.worn q : Int) + 1))).heap.size = w5.heap.size := by simp
        clear f6 r1 r2 HM5 HR5 HF5
        generalize w5.setCell ⟨g, q, none⟩ (.int .i64 ((m.worn q : Int) + 1)) = w6 at *
        have HZ6 := Lib.hid hz6
        clear hz6
        have u1 : (m.eraseM (q : Int)).acts = m.acts + 1 := HA1.out
        have U1 := Lib.hid u1
        clear u1
        go_wp2_with fail
        refine (burn_new HM6.out (by rw [U1.out]; omega) q (-1) (by omega) (by omega) (by decide) (by decide) [⟨#[120]⟩] (by decide) (t := [120]) rfl (by decide) (burn_bad HC1.out.up (.inl (by decide)) [120]).1 (burn_bad HC1.out.up (.inl (by decide)) [120]).2).mono ?_
        rintro e w7 ⟨rfl, M7, F7, z7⟩
        have HF7 := Lib.hid (fr_foot HF6.out F7 hb0 fun k hk => by cases hk)
        have HR7 := Lib.hid (HR6.out.fr F7 (fun h => h.elim (fun e => hbg e.symm) fun e => by cases e))
        have HM7 := Lib.hid M7
        clear M7 F7 HF6 HR6 HM6 z7
        go_wp2_with fail
        refine (burn_nil HM7.out (by rw [U1.out]; omega) q 4097 (by omega) (by omega) (by decide) (by decide) (burn_bad HC1.out.up (.inr (by decide)) []).1 (burn_bad HC1.out.up (.inr (by decide)) []).2).mono ?_
        rintro e w8 ⟨rfl, M8, F8⟩
        have HF8 := Lib.hid (fr_foot HF7.out F8 hb0 fun k hk => by cases hk)
        have HR8 := Lib.hid (HR7.out.fr F8 (fun h => h.elim (fun e => hbg e.symm) fun e => by cases e))
        have HM8 := Lib.hid M8
        clear M8 F8 HF7 HR7 HM7
        go_wp2_with fail
        refine (acts_at HM8.out U1.out).mono ?_
        rintro e w' ⟨rfl, rfl⟩
        have q3 : (((m.acts : Int) + 1) != ((m.acts : Int) + 1)) = false := by simp
        go_wp2_with fail
        refine (down_at HM8.out HC1.out.up).mono ?_
        rintro e w' ⟨rfl, rfl⟩
        go_wp2_with fail
        go_roundw
        case rel => exact ⟨k + 1, by omega, by go_num, by omega, m.eraseM (q : Int), by rw [U1.out]; rfl, HC1.out, HM8.out, HR8.out, HF8.out⟩
        case measure => simp [intOf]; omega
      · have hbad : p < 0 ∨ 24 ≤ p := by omega
        obtain ⟨hE, hM0⟩ := erase_bad HC.out.up hbad
        have HE := Lib.hid hE
        have HM0 := Lib.hid hM0
        have HBAD := Lib.hid hbad
        clear hgood hE hM0 hbad
        have hka := HC.out.acts
        have key : ∃ d0 d1 : Bool, decide ((0 : Int) ≤ p) = d0 ∧ decide (p < 24) = d1 ∧ (d0 = false ∨ d0 = true ∧ d1 = false) := by
          refine ⟨_, _, rfl, rfl, ?_⟩
          rcases HBAD.out with h | h
          · exact .inl (by simp; omega)
          · exact .inr ⟨by simp; omega, by simp; omega⟩
        obtain ⟨d0, d1, h0, h1, hd⟩ := key
        rcases hd with rfl | ⟨rfl, rfl⟩
        · clear h1
          go_wp2_with fail
          refine (erase_at HM.out (by omega) (fun p => by have := HC.out.worn p; omega) p (by omega) (by omega) HE.out HM0.out).mono ?_
          rintro e w5 ⟨rfl, M5, F5⟩
          have HF5 := Lib.hid (fr_foot HF.out F5 hb0 fun k hk => by cases hk)
          have HR5 := Lib.hid (HR.out.fr F5 (fun h => h.elim (fun e => hbg e.symm) fun e => by cases e))
          have HM5 := Lib.hid M5
          clear M5 F5 HF HR HM
          go_wp2_with fail
          refine (burn_new HM5.out (by omega) p (-1) (by omega) (by omega) (by decide) (by decide) [⟨#[120]⟩] (by decide) (t := [120]) rfl (by decide) (burn_bad HC.out.up (.inl (by decide)) [120]).1 (burn_bad HC.out.up (.inl (by decide)) [120]).2).mono ?_
          rintro e w7 ⟨rfl, M7, F7, z7⟩
          have HF7 := Lib.hid (fr_foot HF5.out F7 hb0 fun k hk => by cases hk)
          have HR7 := Lib.hid (HR5.out.fr F7 (fun h => h.elim (fun e => hbg e.symm) fun e => by cases e))
          have HM7 := Lib.hid M7
          clear M7 F7 HF5 HR5 HM5 z7
          go_wp2_with fail
          refine (burn_nil HM7.out (by omega) p 4097 (by omega) (by omega) (by decide) (by decide) (burn_bad HC.out.up (.inr (by decide)) []).1 (burn_bad HC.out.up (.inr (by decide)) []).2).mono ?_
          rintro e w8 ⟨rfl, M8, F8⟩
          have HF8 := Lib.hid (fr_foot HF7.out F8 hb0 fun k hk => by cases hk)
          have HR8 := Lib.hid (HR7.out.fr F8 (fun h => h.elim (fun e => hbg e.symm) fun e => by cases e))
          have HM8 := Lib.hid M8
          clear M8 F8 HF7 HR7 HM7
          go_wp2_with fail
          refine (acts_at HM8.out rfl).mono ?_
          rintro e w' ⟨rfl, rfl⟩
          have q3 : ((m.acts : Int) != (m.acts : Int)) = false := by simp
          go_wp2_with fail
          refine (down_at HM8.out HC.out.up).mono ?_
          rintro e w' ⟨rfl, rfl⟩
          go_wp2_with fail
          go_roundw
          case rel => exact ⟨k + 1, by omega, by go_num, by omega, m, rfl, HC.out.step, HM8.out, HR8.out, HF8.out⟩
          case measure => simp [intOf]; omega
        · have h1' := h1
          clear h1
          go_wp2_with fail
          refine (erase_at HM.out (by omega) (fun p => by have := HC.out.worn p; omega) p (by omega) (by omega) HE.out HM0.out).mono ?_
          rintro e w5 ⟨rfl, M5, F5⟩
          have HF5 := Lib.hid (fr_foot HF.out F5 hb0 fun k hk => by cases hk)
          have HR5 := Lib.hid (HR.out.fr F5 (fun h => h.elim (fun e => hbg e.symm) fun e => by cases e))
          have HM5 := Lib.hid M5
          clear M5 F5 HF HR HM
          go_wp2_with fail
          refine (burn_new HM5.out (by omega) p (-1) (by omega) (by omega) (by decide) (by decide) [⟨#[120]⟩] (by decide) (t := [120]) rfl (by decide) (burn_bad HC.out.up (.inl (by decide)) [120]).1 (burn_bad HC.out.up (.inl (by decide)) [120]).2).mono ?_
          rintro e w7 ⟨rfl, M7, F7, z7⟩
          have HF7 := Lib.hid (fr_foot HF5.out F7 hb0 fun k hk => by cases hk)
          have HR7 := Lib.hid (HR5.out.fr F7 (fun h => h.elim (fun e => hbg e.symm) fun e => by cases e))
          have HM7 := Lib.hid M7
          clear M7 F7 HF5 HR5 HM5 z7
          go_wp2_with fail
          refine (burn_nil HM7.out (by omega) p 4097 (by omega) (by omega) (by decide) (by decide) (burn_bad HC.out.up (.inr (by decide)) []).1 (burn_bad HC.out.up (.inr (by decide)) []).2).mono ?_
          rintro e w8 ⟨rfl, M8, F8⟩
          have HF8 := Lib.hid (fr_foot HF7.out F8 hb0 fun k hk => by cases hk)
          have HR8 := Lib.hid (HR7.out.fr F8 (fun h => h.elim (fun e => hbg e.symm) fun e => by cases e))
          have HM8 := Lib.hid M8
          clear M8 F8 HF7 HR7 HM7
          go_wp2_with fail
          refine (acts_at HM8.out rfl).mono ?_
          rintro e w' ⟨rfl, rfl⟩
          have q3 : ((m.acts : Int) != (m.acts : Int)) = false := by simp
          go_wp2_with fail
          refine (down_at HM8.out HC.out.up).mono ?_
          rintro e w' ⟨rfl, rfl⟩
          go_wp2_with fail
          go_roundw
          case rel => exact ⟨k + 1, by omega, by go_num, by omega, m, rfl, HC.out.step, HM8.out, HR8.out, HF8.out⟩
          case measure => simp [intOf]; omega
    · have HF := Lib.hid hF
      have HM := Lib.hid hM
      have HR := Lib.hid hR
      have hgw : g < wr.heap.size := hR.lt
      by_cases hlt2 : k < l.length
      · have hk60 : k = 60 := by omega
        subst hk60
        obtain ⟨ab, o, rfl, hab, hc⟩ := hA (by simp; omega)
        have e1 := hc 60 (.int .i64 l[60]) (by rw [List.getElem?_map, List.getElem?_eq_getElem hlt2]; rfl)
        have c1 : wr.cell? ⟨ab, o + 60, none⟩ = some (.int .i64 l[60]) := (hF.cell (p := ⟨ab, o + 60, none⟩) hab (by simp; omega)).trans e1
        clear hc e1 hA hF hM hR hC hlt
        generalize l[60] = x at c1
        go_wp2_with fail
        obtain ⟨wo, rfl⟩ : ∃ wo : World, wo = wr := ⟨_, rfl⟩
        go_loopw [11, 86] (fun _ i w2 => ∃ j : Nat, j ≤ 24 ∧ i = .int .i64 j ∧ Mem w2 b none m ∧ RowW w2 g m.worn ∧ Fr (fun k => w.heap.size ≤ k) w w2) (fun _ i _ => 24 - (intOf i).toNat)
        case atStart => exact ⟨0, Nat.zero_le _, rfl, HM.out, HR.out, HF.out⟩
        case round =>
          clear HM HR HF
          obtain ⟨j, hj, rfl, hM, hR, hF⟩ := hrel
          obtain ⟨w2, rfl⟩ : ∃ w2 : World, w2 = wr := ⟨_, rfl⟩
          by_cases hj24 : j < 24
          · have r1 := hR.cell hj24
            have q1 : ((m.worn j : Int) != (m.worn j : Int)) = false := by simp
            have HF := Lib.hid hF
            have HM := Lib.hid hM
            have HR := Lib.hid hR
            have HW : Hid (m.wornAt (j : Int) = m.worn j) := Lib.hid (by unfold Mm.wornAt; rw [if_pos (by omega)]; rfl)
            clear hF hM hR
            have KW := fun n => same_flip (worn_at (HM.out.none ((Fr.refl _ w2).drewN n)) (j : Int) (by omega) (by omega) HW.out)
            go_wp2_with fail
            go_quiet ((go_at_call 27; exact Calls.quiet_of_same (KW _)))
            go_wp2_with fail
            go_roundw
            case rel => exact ⟨j + 1, by omega, by go_num, HM.out.none ((Fr.refl _ _).drewN _), HR.out.fr ((Fr.refl (fun _ => False) _).drewN _) id, HF.out.drewN _⟩
            case measure => simp [intOf]; omega
          · have hj' : j = 24 := by omega
            subst hj'
            have HF := Lib.hid hF
            have HM := Lib.hid hM
            clear hF hM hR hj24
            go_wp2_with fail
            refine (worn_at HM.out (-1) (by decide) (by decide) (k := 0) rfl).mono ?_
            rintro e w' ⟨rfl, rfl⟩
            go_wp2_with fail
            refine (worn_at HM.out 24 (by decide) (by decide) (k := 0) rfl).mono ?_
            rintro e w' ⟨rfl, rfl⟩
            go_wp2_with fail
            refine (bare_at HM.out 24 (by decide) (by decide) (k := 0) rfl).mono ?_
            rintro e w' ⟨rfl, rfl⟩
            go_wp2_with fail
            go_ret
            exact ⟨rfl, HF.out.toBelow⟩
      · have hkl : k = l.length := by omega
        subst hkl
        clear hF hM hR hC hlt hlt2 hA
        go_wp2_with fail
        obtain ⟨wo, rfl⟩ : ∃ wo : World, wo = wr := ⟨_, rfl⟩
        go_loopw [11, 86] (fun _ i w2 => ∃ j : Nat, j ≤ 24 ∧ i = .int .i64 j ∧ Mem w2 b none m ∧ RowW w2 g m.worn ∧ Fr (fun k => w.heap.size ≤ k) w w2) (fun _ i _ => 24 - (intOf i).toNat)
        case atStart => exact ⟨0, Nat.zero_le _, rfl, HM.out, HR.out, HF.out⟩
        case round =>
          clear HM HR HF
          obtain ⟨j, hj, rfl, hM, hR, hF⟩ := hrel
          obtain ⟨w2, rfl⟩ : ∃ w2 : World, w2 = wr := ⟨_, rfl⟩
          by_cases hj24 : j < 24
          · have r1 := hR.cell hj24
            have q1 : ((m.worn j : Int) != (m.worn j : Int)) = false := by simp
            have HF := Lib.hid hF
            have HM := Lib.hid hM
            have HR := Lib.hid hR
            have HW : Hid (m.wornAt (j : Int) = m.worn j) := Lib.hid (by unfold Mm.wornAt; rw [if_pos (by omega)]; rfl)
            clear hF hM hR
            have KW := fun n => same_flip (worn_at (HM.out.none ((Fr.refl _ w2).drewN n)) (j : Int) (by omega) (by omega) HW.out)
            go_wp2_with fail
            go_quiet ((go_at_call 27; exact Calls.quiet_of_same (KW _)))
            go_wp2_with fail
            go_roundw
            case rel => exact ⟨j + 1, by omega, by go_num, HM.out.none ((Fr.refl _ _).drewN _), HR.out.fr ((Fr.refl (fun _ => False) _).drewN _) id, HF.out.drewN _⟩
            case measure => simp [intOf]; omega
          · have hj' : j = 24 := by omega
            subst hj'
            have HF := Lib.hid hF
            have HM := Lib.hid hM
            clear hF hM hR hj24
            go_wp2_with fail
            refine (worn_at HM.out (-1) (by decide) (by decide) (k := 0) rfl).mono ?_
            rintro e w' ⟨rfl, rfl⟩
            go_wp2_with fail
            refine (worn_at HM.out 24 (by decide) (by decide) (k := 0) rfl).mono ?_
            rintro e w' ⟨rfl, rfl⟩
            go_wp2_with fail
            refine (bare_at HM.out 24 (by decide) (by decide) (k := 0) rfl).mono ?_
            rintro e w' ⟨rfl, rfl⟩
            go_wp2_with fail
            go_ret
            exact ⟨rfl, HF.out.toBelow⟩
end Go.Proofs.Ytafhkhkpknipmaa

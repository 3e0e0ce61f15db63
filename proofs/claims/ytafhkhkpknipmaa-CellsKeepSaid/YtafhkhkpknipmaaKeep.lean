/- The walk of CellsKeep. -/
import Derived.Test.YtafhkhkpknipmaaCutsp
import Derived.Deep.LoopGhost
import Derived.Deep.CutRange
namespace Go.Proofs.Ytafhkhkpknipmaa
open Go.RowKit Go.Maps

theorem same_flip {P : Program} {f : FuncId} {args : Array Value} {w : World} {e0 : Ending} (h : Calls P f args w fun e w' => e = e0 ∧ w = w') : Calls P f args w fun e w' => e = e0 ∧ w' = w := h.mono fun _ _ ⟨he, hw⟩ => ⟨he, hw.symm⟩
theorem tmod_in (x : Int) (m : Int) (h0 : 0 < m) (h : m ≤ 5000) : (ki (x.tmod m)).wf = true ∧ -5000 ≤ x.tmod m ∧ x.tmod m ≤ 5000 := by
  have h1 := Int.tmod_lt_of_pos x h0
  have h2 := Int.lt_tmod_of_pos x h0
  exact ⟨wf_int (by omega) (by omega), by omega, by omega⟩

/-- up, nothing armed, and the text t stands on page 5 from a on, but for its bytes 255 -/
structure Kp (m : Mm) (a : Nat) (t : List UInt8) (k : Nat) : Prop where
  up : m.down = false
  cut : ∀ i, m.cut i = none
  acts : m.acts ≤ 1
  worn : ∀ p, m.worn p ≤ k
  keep : ∀ i x, t[i]? = some x → x ≠ 255 → m.pg 5 (a + i) = x
namespace Kp
variable {m : Mm} {a k : Nat} {t : List UInt8}
theorem first (ha : a + t.length ≤ 4096) : Mm.new.burnE 5 (a : Int) t = 0 ∧ Kp (Mm.new.burnM 5 (a : Int) t) a t 0 := by
  obtain ⟨h1, h2⟩ := burn_free (m := Mm.new) (p := 5) (a := a) (t := t) rfl rfl (by decide) ha fun _ _ => rfl
  refine ⟨h1, ?_⟩
  have h2' : Mm.new.burnM 5 (a : Int) t = { Mm.new with acts := 1, pg := layP Mm.new.pg 5 a t } := h2
  rw [h2']
  exact ⟨rfl, fun _ => rfl, Nat.le_refl _, fun _ => Nat.le_refl _, fun i x hx _ => layP_in _ _ _ _ _ _ hx⟩
theorem erase (h : Kp m a t k) (c : Int) (p : Nat) (hp : p ≠ 5) : Kp (((m.arm fun i => cutAt [(0, c)] i).eraseM (p : Int)).again) a t (k + 1) := by
  refine ⟨rfl, fun _ => rfl, Nat.zero_le _, fun q => ?_, fun i x hx hne => ?_⟩
  · show ((m.arm fun i => cutAt [(0, c)] i).eraseM (p : Int)).worn q ≤ k + 1
    have := h.worn q
    unfold Mm.eraseM
    split
    · show (if q = (p : Int).toNat then m.worn q + 1 else m.worn q) ≤ k + 1
      split <;> omega
    · show m.worn q ≤ k + 1
      omega
  · show ((m.arm fun i => cutAt [(0, c)] i).eraseM (p : Int)).pg 5 (a + i) = x
    unfold Mm.eraseM
    split
    · show layP m.pg (p : Int).toNat 0 _ 5 (a + i) = x
      rw [layP_out _ _ _ _ _ _ (.inl (by omega))]
      exact h.keep i x hx hne
    · exact h.keep i x hx hne
theorem burn (h : Kp m a t k) (c : Int) (p z : Int) (t2 : List UInt8) : Kp (((m.arm fun i => cutAt [(0, c)] i).burnM p z t2).again) a t (k + 1) := by
  refine ⟨rfl, fun _ => rfl, Nat.zero_le _, fun q => ?_, fun i x hx hne => ?_⟩
  · show ((m.arm fun i => cutAt [(0, c)] i).burnM p z t2).worn q ≤ k + 1
    rw [Ex.burn_worn]
    have := h.worn q
    show m.worn q ≤ k + 1
    omega
  · show ((m.arm fun i => cutAt [(0, c)] i).burnM p z t2).pg 5 (a + i) = x
    have hk := h.keep i x hx hne
    unfold Mm.burnM
    split
    · rename_i hc
      have hb := (bareN_zero _ _).1 hc.2
      show layP m.pg p.toNat z.toNat _ 5 (a + i) = x
      by_cases hin : 5 = p.toNat ∧ z.toNat ≤ a + i ∧ a + i < z.toNat + t2.length
      · have h255 : m.pg p.toNat (z.toNat + (a + i - z.toNat)) = 255 := hb (a + i - z.toNat) (by omega)
        rw [show z.toNat + (a + i - z.toNat) = a + i by omega, ← hin.1, hk] at h255
        exact absurd h255 hne
      · rw [layP_out _ _ _ _ _ _ (by rw [List.length_take]; omega)]
        exact hk
    · exact hk
theorem read (h : Kp m a t k) (ha : a + t.length ≤ 4096) : ∃ S : List UInt8, m.spotE 5 (a : Int) (t.length : Int) = 0 ∧ m.readT 5 (a : Int) (t.length : Int) = S ∧ S.length = t.length ∧ ∀ i (h1 : i < S.length) (h2 : i < t.length), t[i] ≠ 255 → S[i] = t[i] := by
  obtain ⟨h1, h2⟩ := read_cut (m := m) (p := 5) h.up (by decide) ha
  refine ⟨_, h1, h2, cutP_length _ _ _, fun i g1 g2 hne => ?_⟩
  have q := cutP_get (m.pg 5) a t.length i g2
  rw [List.getElem?_eq_getElem g1, h.keep i t[i] (List.getElem?_eq_getElem g2) hne] at q
  injection q
theorem last (h : Kp m a t k) : m.eraseE 5 = 0 ∧ (m.eraseM 5).bare 5 = 0 := by
  have hs : m.spotE ((5 : Nat) : Int) 0 4096 = 0 := spot_is (m := m) (p := 5) (a := 0) (n := 4096) h.up (by decide) (Nat.le_refl _)
  exact ⟨(erase_free (m := m) (p := 5) h.up (hit_none h.cut) (by decide)).1, erase_bare (p := 5) hs (part_free (hit_none h.cut) _)⟩
end Kp

set_option maxRecDepth 100000 in
set_option maxHeartbeats 16000000 in
theorem keep_walk (text : ByteArray) (at' : Int) {A : Option Addr} {c : Nat} (l : List Int) (ht : text.size ≤ 140737488351232) (hlen : l.length * 8 ≤ 140737488351232) (w : World) (hA : Rd w A (l.map (Value.int .i64))) :
    Calls Try.prog 4 #[.string text, .int .i64 at', .slice A l.length c] w fun e w' => e = .returned (.bool true) ∧ Below w.heap.size w w' := by
  obtain ⟨a, ha', ha3⟩ := umod at' 3000 (by decide) (by decide)
  have ha : wrap64 ((IntKind.u64.wrap at').tmod 3000) = (a : Int) := ha'
  obtain ⟨n4, hn⟩ : ∃ n : Nat, n = min text.size 1000 := ⟨_, rfl⟩
  have hmin : (min (text.size : Int) 1000).toNat = n4 := by omega
  have hsz : (text.extract 0 n4).size = n4 := by rw [ByteArray.size_extract]; omega
  have hn2 : n4 ≤ 1000 := by omega
  clear hn ha'
  go_enter Try.func4, Try.ntmps4
  go_wp2_with fail
  refine (lives_any w).mono ?_
  rintro e w1 ⟨rfl, F1⟩
  have G1 := Lib.hid F1
  clear F1
  go_wp2_with fail
  refine (new_any _).mono ?_
  rintro e w2 ⟨rfl, M2, F2⟩
  obtain ⟨b, hb⟩ : ∃ b, b = w1.heap.size := ⟨_, rfl⟩
  have hb0 : w.heap.size ≤ b := by have := G1.out.size; omega
  rw [← hb] at M2 ⊢
  have G2 := Lib.hid (fr_nil G1.out F2)
  have N2 := Lib.hid M2
  clear F2 M2 hb G1
  go_wp2_with fail
  simp only [ha]
  clear hmin ha
  generalize text.extract 0 n4 = s at *
  subst hsz
  obtain ⟨t, ht'⟩ : ∃ t, t = bytesOf s := ⟨_, rfl⟩
  have htl : t.length = s.size := by rw [ht', bytesOf_length]
  have HT := Lib.hid ht'
  have TL := Lib.hid htl
  have ht1 : t.length ≤ 1000 := by omega
  have K0 := Lib.hid (Kp.first (a := a) (t := t) (by omega))
  clear ht' htl
  refine (burn_new N2.out (by decide) 5 a (by decide) (by decide) (by omega) (by omega) [s] (by simp) (t := t) (by rw [HT.out]; exact jn_one s) (by omega) K0.out.1 rfl).mono ?_
  rintro e w3 ⟨rfl, M3, F3, z3⟩
  have G3 := Lib.hid (fr_foot G2.out F3 hb0 fun k hk => by cases hk)
  have N3 := Lib.hid M3
  clear M3 F3 G2 N2 z3
  go_wp2_with fail
  go_loopw [7, 34] (fun vm i wr => ∃ k : Nat, k ≤ l.length ∧ k ≤ 30 ∧ i = .int .i64 k ∧ ∃ b : Nat, ∃ m : Mm, vm = .pointer (some ⟨b, 0, none⟩) ∧ w.heap.size ≤ b ∧ Mem wr b none m ∧ Kp m a t k ∧ Fr (fun k => w.heap.size ≤ k) w wr) (fun _ i _ => l.length - (intOf i).toNat)
  case atStart => exact ⟨0, Nat.zero_le _, by decide, rfl, b, _, rfl, hb0, N3.out, K0.out.2, G3.out⟩
  case round =>
    clear N3 G3 hb0 K0
    obtain ⟨k, hk, h30, rfl, b, m, rfl, hb0, hM, hK, hF⟩ := hrel
    obtain ⟨wo, hwo⟩ : ∃ wo : World, wo = wr := ⟨_, rfl⟩
    subst hwo
    have hkey : k < l.length ∧ k < 30 ∨ (k = l.length ∨ k < l.length ∧ k = 30) := by omega
    rcases hkey with ⟨hlt, h30'⟩ | hend
    · have d30 : decide ((30 : Int) ≤ (k : Int)) = false := by simp; omega
      obtain ⟨ab, o, rfl, hab, hc⟩ := hA (by simp; omega)
      have e1 := hc k (.int .i64 l[k]) (by rw [List.getElem?_map, List.getElem?_eq_getElem hlt]; rfl)
      have c1 : wo.cell? ⟨ab, o + k, none⟩ = some (.int .i64 l[k]) := (hF.cell (p := ⟨ab, o + k, none⟩) hab (by simp; omega)).trans e1
      clear hc e1 hA
      generalize l[k] = x at c1
      have HF := Lib.hid hF
      have HM := Lib.hid hM
      have HK := Lib.hid hK
      clear hF hM hK
      obtain ⟨q, hq', hq24⟩ := umod x 24 (by decide) (by decide)
      have hq : wrap64 ((IntKind.u64.wrap x).tmod 24) = (q : Int) := hq'
      obtain ⟨z, hz', hz96⟩ := umod x 4096 (by decide) (by decide)
      have hz : wrap64 ((IntKind.u64.wrap x).tmod 4096) = (z : Int) := hz'
      obtain ⟨wfc, hc1, hc2⟩ := tmod_in x 5000 (by decide) (by decide)
      have HQ := Lib.hid hq
      have HZ := Lib.hid hz
      have WF := Lib.hid wfc
      clear hq hz hq' hz' wfc
      go_upto_region 13 with (fail)
      simp only [HQ.out]
      go_wp2_with fail
      refine (arm_new HM.out [(0, x.tmod 5000)] (by simp) (fun y hy => ?_) rfl).mono ?_
      · simp only [List.mem_cons, List.not_mem_nil, or_false] at hy
        subst hy
        exact ⟨(show (ki 0).wf = true by decide), WF.out⟩
      rintro e w4 ⟨rfl, M4, F4, z4⟩
      have G4 := Lib.hid (fr_one HF.out F4 hb0)
      have hr0 : w.heap.size ≤ wo.heap.size + 1 := by have := HF.out.size; omega
      obtain ⟨r, hr⟩ : ∃ r, r = wo.heap.size + 1 := ⟨_, rfl⟩
      rw [← hr] at M4 hr0
      have N4 := Lib.hid M4
      clear M4 F4 HF HM hr z4
      have hact := HK.out.acts
      have hworn := HK.out.worn
      have HWN := Lib.hid hworn
      clear hworn
      have hcase : ∃ b1 b2 : Bool, ((x.tmod 3 : Int) == 0) = b1 ∧ (((q : Nat) : Int) != 5) = b2 ∧ (b1 = true ∧ b2 = true ∧ q ≠ 5 ∨ (b1 = false ∨ b1 = true ∧ b2 = false)) := by
        refine ⟨_, _, rfl, rfl, ?_⟩
        by_cases h1 : x.tmod 3 = 0
        · by_cases h2 : q = 5
          · exact .inr (.inr ⟨by simp [h1], by simp [h2]⟩)
          · exact .inl ⟨by simp [h1], by simp; omega, h2⟩
        · exact .inr (.inl (by simp [h1]))
      obtain ⟨b1, b2, t1, t2, hcase⟩ := hcase
      rcases hcase with ⟨rfl, rfl, hq5⟩ | rfl | ⟨rfl, rfl⟩
      · go_wp2_with fail
        refine (erase_at N4.out (by show m.acts < _; omega) (fun p => by have := HWN.out p; show m.worn p < _; omega) q (by omega) (by omega) rfl rfl).mono ?_
        rintro e w5 ⟨rfl, M5, F5⟩
        have G5 := Lib.hid (fr_foot G4.out F5 hb0 fun k hk => by injection hk with hk; omega)
        have N5 := Lib.hid M5
        have HK2 := Lib.hid (HK.out.erase (x.tmod 5000) q hq5)
        clear M5 F5 N4 G4 HK t1 t2
        go_wp2_with fail
        refine (again_any N5.out).mono ?_
        rintro e w6 ⟨rfl, M6, F6⟩
        have pack : ∃ m2, Mem w6 w5.heap.size none m2 ∧ Kp m2 a t (k + 1) ∧ m2.acts = 0 := ⟨_, M6, HK2.out, rfl⟩
        obtain ⟨c', hc'⟩ : ∃ b, b = w5.heap.size := ⟨_, rfl⟩
        have hc0 : w.heap.size ≤ c' := by have := G5.out.size; omega
        rw [← hc'] at pack ⊢
        have G6 := Lib.hid (fr_nil G5.out F6)
        obtain ⟨m2, M7, K7, A7⟩ := pack
        have N6 := Lib.hid M7
        obtain ⟨S, r1, r2, r3, r4⟩ := K7.read (by omega)
        have K6 := Lib.hid K7
        have A6 := Lib.hid A7
        have R1 := Lib.hid r1
        have R2 := Lib.hid r2
        have R3 := Lib.hid r3
        have R4 := Lib.hid r4
        clear M6 F6 G5 N5 hc' M7 K7 A7 r1 r2 r3 r4 HK2
        go_wp2_with fail
        refine (down_at N6.out K6.out.up).mono ?_
        rintro e w' ⟨rfl, rfl⟩
        go_wp2_with fail
        refine (acts_at N6.out A6.out).mono ?_
        rintro e w' ⟨rfl, rfl⟩
        go_wp2_with fail
        rw [show ((s.size : Nat) : Int) = ((t.length : Nat) : Int) by rw [TL.out]]
        refine (read_at N6.out 5 a t.length (by decide) (by decide) (by omega) (by omega) (by omega) (by omega) R1.out R2.out).mono ?_
        rintro e w' ⟨rfl, rfl⟩
        rw [TL.out]
        have hXs : (⟨S.toArray⟩ : ByteArray).size = s.size := (show S.length = s.size by rw [R3.out, TL.out])
        have hXe : ∀ j (h1 : j < (⟨S.toArray⟩ : ByteArray).size) (h2 : j < s.size), s[j] ≠ 255 → (⟨S.toArray⟩ : ByteArray)[j] = s[j] := fun j h1 h2 hne => by
          have hsj : s[j] = t[j]'(by rw [TL.out]; exact h2) := by
            have e0 : ∀ (u : List UInt8) (hu : u = bytesOf s) (hj : j < u.length), u[j] = s[j] := fun u hu hj => by subst hu; rfl
            exact (e0 t HT.out _).symm
          rw [hsj] at hne ⊢
          exact R4.out j h1 (by rw [TL.out]; exact h2) hne
        generalize (⟨S.toArray⟩ : ByteArray) = X at *
        have q1 : ((X.size : Int) != (s.size : Int)) = false := by rw [hXs]; simp
        have HXs := Lib.hid hXs
        have HXe := Lib.hid hXe
        clear hXs hXe
        go_wp2_with fail
        clear q1
        go_loopw [13] (fun i w2 => ∃ j : Nat, j ≤ s.size ∧ i = .int .i64 j ∧ ∃ n, w2 = w6.drewN n) (fun i _ => s.size - (intOf i).toNat)
        case atStart => exact ⟨0, Nat.zero_le _, rfl, 0, rfl⟩
        case round =>
          obtain ⟨j, hj, rfl, n, hn⟩ := hrel
          have HNN := Lib.hid hn
          clear hn
          by_cases hjl : j < s.size
          · have hjX : j < X.size := by rw [HXs.out]; exact hjl
            by_cases hq : X[j] = s[j]
            · have u1 : (((X[j].toNat : Nat) : Int) != ((s[j].toNat : Nat) : Int)) = false := by rw [hq]; simp
              clear hq
              go_wp2_with fail
              go_quiet (fail)
              go_wp2_with fail
              go_roundw
              case rel => exact ⟨j + 1, by omega, by go_num, n + nq, by rw [HNN.out, World.drewN_drewN]⟩
              case measure => simp [intOf]; omega
            · have h255 : s[j] = 255 := Classical.byContradiction fun hne => hq (HXe.out j hjX hjl hne)
              have u2 : (((s[j].toNat : Nat) : Int) != 255) = false := by rw [h255]; rfl
              have u1 : (((X[j].toNat : Nat) : Int) != ((s[j].toNat : Nat) : Int)) = true := by
                have : X[j].toNat ≠ s[j].toNat := fun e => hq (UInt8.toNat_inj.1 e)
                simp
                omega
              clear hq h255
              go_wp2_with fail
              go_quiet (fail)
              go_wp2_with fail
              go_roundw
              case rel => exact ⟨j + 1, by omega, by go_num, n + nq, by rw [HNN.out, World.drewN_drewN]⟩
              case measure => simp [intOf]; omega
          · have hjs : j = s.size := by omega
            subst hjs
            have W6 : Mem wr c' none m2 ∧ Fr (fun k => w.heap.size ≤ k) w wr := by rw [HNN.out]; exact ⟨N6.out.none ((Fr.refl _ w6).drewN n), G6.out.drewN n⟩
            have HW6 := Lib.hid W6
            clear W6 hjl
            go_wp2_with fail
            go_roundw
            case rel => exact ⟨k + 1, by omega, by omega, by go_num, c', m2, rfl, hc0, HW6.out.1, K6.out, HW6.out.2⟩
            case measure => simp [intOf]; omega
      · go_upto_region 14 with (fail)
        go_wp2_with fail
        simp only [HZ.out]
        refine (burn_new N4.out (by show m.acts < _; omega) q z (by omega) (by omega) (by omega) (by omega) [⟨#[122, 122, 122, 122]⟩] (by simp) (t := [122, 122, 122, 122]) rfl (by decide) rfl rfl).mono ?_
        rintro e w5 ⟨rfl, M5, F5, z5⟩
        have G5 := Lib.hid (fr_foot G4.out F5 hb0 fun k hk => by injection hk with hk; omega)
        have N5 := Lib.hid M5
        have HK2 := Lib.hid (HK.out.burn (x.tmod 5000) q z [122, 122, 122, 122])
        clear M5 F5 N4 G4 HK t1 z5
        go_wp2_with fail
        refine (again_any N5.out).mono ?_
        rintro e w6 ⟨rfl, M6, F6⟩
        have pack : ∃ m2, Mem w6 w5.heap.size none m2 ∧ Kp m2 a t (k + 1) ∧ m2.acts = 0 := ⟨_, M6, HK2.out, rfl⟩
        obtain ⟨c', hc'⟩ : ∃ b, b = w5.heap.size := ⟨_, rfl⟩
        have hc0 : w.heap.size ≤ c' := by have := G5.out.size; omega
        rw [← hc'] at pack ⊢
        have G6 := Lib.hid (fr_nil G5.out F6)
        obtain ⟨m2, M7, K7, A7⟩ := pack
        have N6 := Lib.hid M7
        obtain ⟨S, r1, r2, r3, r4⟩ := K7.read (by omega)
        have K6 := Lib.hid K7
        have A6 := Lib.hid A7
        have R1 := Lib.hid r1
        have R2 := Lib.hid r2
        have R3 := Lib.hid r3
        have R4 := Lib.hid r4
        clear M6 F6 G5 N5 hc' M7 K7 A7 r1 r2 r3 r4 HK2
        go_wp2_with fail
        refine (down_at N6.out K6.out.up).mono ?_
        rintro e w' ⟨rfl, rfl⟩
        go_wp2_with fail
        refine (acts_at N6.out A6.out).mono ?_
        rintro e w' ⟨rfl, rfl⟩
        go_wp2_with fail
        rw [show ((s.size : Nat) : Int) = ((t.length : Nat) : Int) by rw [TL.out]]
        refine (read_at N6.out 5 a t.length (by decide) (by decide) (by omega) (by omega) (by omega) (by omega) R1.out R2.out).mono ?_
        rintro e w' ⟨rfl, rfl⟩
        rw [TL.out]
        have hXs : (⟨S.toArray⟩ : ByteArray).size = s.size := (show S.length = s.size by rw [R3.out, TL.out])
        have hXe : ∀ j (h1 : j < (⟨S.toArray⟩ : ByteArray).size) (h2 : j < s.size), s[j] ≠ 255 → (⟨S.toArray⟩ : ByteArray)[j] = s[j] := fun j h1 h2 hne => by
          have hsj : s[j] = t[j]'(by rw [TL.out]; exact h2) := by
            have e0 : ∀ (u : List UInt8) (hu : u = bytesOf s) (hj : j < u.length), u[j] = s[j] := fun u hu hj => by subst hu; rfl
            exact (e0 t HT.out _).symm
          rw [hsj] at hne ⊢
          exact R4.out j h1 (by rw [TL.out]; exact h2) hne
        generalize (⟨S.toArray⟩ : ByteArray) = X at *
        have q1 : ((X.size : Int) != (s.size : Int)) = false := by rw [hXs]; simp
        have HXs := Lib.hid hXs
        have HXe := Lib.hid hXe
        clear hXs hXe
        go_wp2_with fail
        clear q1
        go_loopw [13] (fun i w2 => ∃ j : Nat, j ≤ s.size ∧ i = .int .i64 j ∧ ∃ n, w2 = w6.drewN n) (fun i _ => s.size - (intOf i).toNat)
        case atStart => exact ⟨0, Nat.zero_le _, rfl, 0, rfl⟩
        case round =>
          obtain ⟨j, hj, rfl, n, hn⟩ := hrel
          have HNN := Lib.hid hn
          clear hn
          by_cases hjl : j < s.size
          · have hjX : j < X.size := by rw [HXs.out]; exact hjl
            by_cases hq : X[j] = s[j]
            · have u1 : (((X[j].toNat : Nat) : Int) != ((s[j].toNat : Nat) : Int)) = false := by rw [hq]; simp
              clear hq
              go_wp2_with fail
              go_quiet (fail)
              go_wp2_with fail
              go_roundw
              case rel => exact ⟨j + 1, by omega, by go_num, n + nq, by rw [HNN.out, World.drewN_drewN]⟩
              case measure => simp [intOf]; omega
            · have h255 : s[j] = 255 := Classical.byContradiction fun hne => hq (HXe.out j hjX hjl hne)
              have u2 : (((s[j].toNat : Nat) : Int) != 255) = false := by rw [h255]; rfl
              have u1 : (((X[j].toNat : Nat) : Int) != ((s[j].toNat : Nat) : Int)) = true := by
                have : X[j].toNat ≠ s[j].toNat := fun e => hq (UInt8.toNat_inj.1 e)
                simp
                omega
              clear hq h255
              go_wp2_with fail
              go_quiet (fail)
              go_wp2_with fail
              go_roundw
              case rel => exact ⟨j + 1, by omega, by go_num, n + nq, by rw [HNN.out, World.drewN_drewN]⟩
              case measure => simp [intOf]; omega
          · have hjs : j = s.size := by omega
            subst hjs
            have W6 : Mem wr c' none m2 ∧ Fr (fun k => w.heap.size ≤ k) w wr := by rw [HNN.out]; exact ⟨N6.out.none ((Fr.refl _ w6).drewN n), G6.out.drewN n⟩
            have HW6 := Lib.hid W6
            clear W6 hjl
            go_wp2_with fail
            go_roundw
            case rel => exact ⟨k + 1, by omega, by omega, by go_num, c', m2, rfl, hc0, HW6.out.1, K6.out, HW6.out.2⟩
            case measure => simp [intOf]; omega
      · go_upto_region 14 with (fail)
        go_wp2_with fail
        simp only [HZ.out]
        refine (burn_new N4.out (by show m.acts < _; omega) q z (by omega) (by omega) (by omega) (by omega) [⟨#[122, 122, 122, 122]⟩] (by simp) (t := [122, 122, 122, 122]) rfl (by decide) rfl rfl).mono ?_
        rintro e w5 ⟨rfl, M5, F5, z5⟩
        have G5 := Lib.hid (fr_foot G4.out F5 hb0 fun k hk => by injection hk with hk; omega)
        have N5 := Lib.hid M5
        have HK2 := Lib.hid (HK.out.burn (x.tmod 5000) q z [122, 122, 122, 122])
        clear M5 F5 N4 G4 HK t1 z5 t2
        go_wp2_with fail
        refine (again_any N5.out).mono ?_
        rintro e w6 ⟨rfl, M6, F6⟩
        have pack : ∃ m2, Mem w6 w5.heap.size none m2 ∧ Kp m2 a t (k + 1) ∧ m2.acts = 0 := ⟨_, M6, HK2.out, rfl⟩
        obtain ⟨c', hc'⟩ : ∃ b, b = w5.heap.size := ⟨_, rfl⟩
        have hc0 : w.heap.size ≤ c' := by have := G5.out.size; omega
        rw [← hc'] at pack ⊢
        have G6 := Lib.hid (fr_nil G5.out F6)
        obtain ⟨m2, M7, K7, A7⟩ := pack
        have N6 := Lib.hid M7
        obtain ⟨S, r1, r2, r3, r4⟩ := K7.read (by omega)
        have K6 := Lib.hid K7
        have A6 := Lib.hid A7
        have R1 := Lib.hid r1
        have R2 := Lib.hid r2
        have R3 := Lib.hid r3
        have R4 := Lib.hid r4
        clear M6 F6 G5 N5 hc' M7 K7 A7 r1 r2 r3 r4 HK2
        go_wp2_with fail
        refine (down_at N6.out K6.out.up).mono ?_
        rintro e w' ⟨rfl, rfl⟩
        go_wp2_with fail
        refine (acts_at N6.out A6.out).mono ?_
        rintro e w' ⟨rfl, rfl⟩
        go_wp2_with fail
        rw [show ((s.size : Nat) : Int) = ((t.length : Nat) : Int) by rw [TL.out]]
        refine (read_at N6.out 5 a t.length (by decide) (by decide) (by omega) (by omega) (by omega) (by omega) R1.out R2.out).mono ?_
        rintro e w' ⟨rfl, rfl⟩
        rw [TL.out]
        have hXs : (⟨S.toArray⟩ : ByteArray).size = s.size := (show S.length = s.size by rw [R3.out, TL.out])
        have hXe : ∀ j (h1 : j < (⟨S.toArray⟩ : ByteArray).size) (h2 : j < s.size), s[j] ≠ 255 → (⟨S.toArray⟩ : ByteArray)[j] = s[j] := fun j h1 h2 hne => by
          have hsj : s[j] = t[j]'(by rw [TL.out]; exact h2) := by
            have e0 : ∀ (u : List UInt8) (hu : u = bytesOf s) (hj : j < u.length), u[j] = s[j] := fun u hu hj => by subst hu; rfl
            exact (e0 t HT.out _).symm
          rw [hsj] at hne ⊢
          exact R4.out j h1 (by rw [TL.out]; exact h2) hne
        generalize (⟨S.toArray⟩ : ByteArray) = X at *
        have q1 : ((X.size : Int) != (s.size : Int)) = false := by rw [hXs]; simp
        have HXs := Lib.hid hXs
        have HXe := Lib.hid hXe
        clear hXs hXe
        go_wp2_with fail
        clear q1
        go_loopw [13] (fun i w2 => ∃ j : Nat, j ≤ s.size ∧ i = .int .i64 j ∧ ∃ n, w2 = w6.drewN n) (fun i _ => s.size - (intOf i).toNat)
        case atStart => exact ⟨0, Nat.zero_le _, rfl, 0, rfl⟩
        case round =>
          obtain ⟨j, hj, rfl, n, hn⟩ := hrel
          have HNN := Lib.hid hn
          clear hn
          by_cases hjl : j < s.size
          · have hjX : j < X.size := by rw [HXs.out]; exact hjl
            by_cases hq : X[j] = s[j]
            · have u1 : (((X[j].toNat : Nat) : Int) != ((s[j].toNat : Nat) : Int)) = false := by rw [hq]; simp
              clear hq
              go_wp2_with fail
              go_quiet (fail)
              go_wp2_with fail
              go_roundw
              case rel => exact ⟨j + 1, by omega, by go_num, n + nq, by rw [HNN.out, World.drewN_drewN]⟩
              case measure => simp [intOf]; omega
            · have h255 : s[j] = 255 := Classical.byContradiction fun hne => hq (HXe.out j hjX hjl hne)
              have u2 : (((s[j].toNat : Nat) : Int) != 255) = false := by rw [h255]; rfl
              have u1 : (((X[j].toNat : Nat) : Int) != ((s[j].toNat : Nat) : Int)) = true := by
                have : X[j].toNat ≠ s[j].toNat := fun e => hq (UInt8.toNat_inj.1 e)
                simp
                omega
              clear hq h255
              go_wp2_with fail
              go_quiet (fail)
              go_wp2_with fail
              go_roundw
              case rel => exact ⟨j + 1, by omega, by go_num, n + nq, by rw [HNN.out, World.drewN_drewN]⟩
              case measure => simp [intOf]; omega
          · have hjs : j = s.size := by omega
            subst hjs
            have W6 : Mem wr c' none m2 ∧ Fr (fun k => w.heap.size ≤ k) w wr := by rw [HNN.out]; exact ⟨N6.out.none ((Fr.refl _ w6).drewN n), G6.out.drewN n⟩
            have HW6 := Lib.hid W6
            clear W6 hjl
            go_wp2_with fail
            go_roundw
            case rel => exact ⟨k + 1, by omega, by omega, by go_num, c', m2, rfl, hc0, HW6.out.1, K6.out, HW6.out.2⟩
            case measure => simp [intOf]; omega
    · have HF := Lib.hid hF
      have HM := Lib.hid hM
      have HK := Lib.hid hK
      clear hF hM hK
      have L := Lib.hid HK.out.last
      have ha1 := HK.out.acts
      have HWN := Lib.hid HK.out.worn
      have hk30 : k ≤ 30 := h30
      rcases hend with rfl | ⟨hlt, rfl⟩
      · clear hA
        go_wp2_with fail
        refine (erase_at HM.out (by omega) (fun p => by have := HWN.out p; omega) 5 (by decide) (by decide) L.out.1 rfl).mono ?_
        rintro e w5 ⟨rfl, M5, F5⟩
        have G5 := Lib.hid (fr_foot HF.out F5 hb0 fun k hk => by cases hk)
        have N5 := Lib.hid M5
        clear M5 F5
        go_wp2_with fail
        refine (bare_at N5.out 5 (by decide) (by decide) L.out.2).mono ?_
        rintro e w' ⟨rfl, rfl⟩
        go_wp2_with fail
        go_ret
        exact ⟨rfl, G5.out.toBelow⟩
      · obtain ⟨ab, o, rfl, hab, hc⟩ := hA (by simp; omega)
        have e1 := hc 30 (.int .i64 l[30]) (by rw [List.getElem?_map, List.getElem?_eq_getElem hlt]; rfl)
        have c1 : wo.cell? ⟨ab, o + 30, none⟩ = some (.int .i64 l[30]) := (HF.out.cell (p := ⟨ab, o + 30, none⟩) hab (by simp; omega)).trans e1
        clear hc e1 hA
        generalize l[30] = x at c1
        go_wp2_with fail
        refine (erase_at HM.out (by omega) (fun p => by have := HWN.out p; omega) 5 (by decide) (by decide) L.out.1 rfl).mono ?_
        rintro e w5 ⟨rfl, M5, F5⟩
        have G5 := Lib.hid (fr_foot HF.out F5 hb0 fun k hk => by cases hk)
        have N5 := Lib.hid M5
        clear M5 F5
        go_wp2_with fail
        refine (bare_at N5.out 5 (by decide) (by decide) L.out.2).mono ?_
        rintro e w' ⟨rfl, rfl⟩
        go_wp2_with fail
        go_ret
        exact ⟨rfl, G5.out.toBelow⟩
end Go.Proofs.Ytafhkhkpknipmaa

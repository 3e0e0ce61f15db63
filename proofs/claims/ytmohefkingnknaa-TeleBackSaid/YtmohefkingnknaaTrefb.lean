/- The contracts of the document's own Block and ReadBlock. -/
import Derived.Test.YtmohefkingnknaaTblock
namespace Go.Proofs.Ytmohefkingnknaa.Te
open Go.RowKit Go.Proofs.Ytmohefkingnknaa.Pa

set_option maxHeartbeats 1000000 in
theorem refblock_any (a d g : Int) (w : World) :
    Calls Try.prog 14 #[.agg #[.int .i64 a, .int .i64 d, .int .i64 g]] w fun e w' => e = .returned (.tuple #[.string ⟨(blL a d g).1.toArray⟩, .int .i64 (blL a d g).2]) ∧ Fr (fun _ => False) w w' := by
  have i0 : Is (w.alloc (.cells #[.int .i64 a, .int .i64 d, .int .i64 g] 30)) w.heap.size 30 #[.int .i64 a, .int .i64 d, .int .i64 g] := Is.new _ _ _
  have f0 : Fr (fun _ => False) w (w.alloc (.cells #[.int .i64 a, .int .i64 d, .int .i64 g] 30)) := (Fr.refl _ w).alloc _
  have hb0 : (w.alloc (.cells #[.int .i64 a, .int .i64 d, .int .i64 g] 30)).heap.size = w.heap.size + 1 := by simp
  have K1 := mnew_calls 13 (w.alloc (.cells #[.int .i64 a, .int .i64 d, .int .i64 g] 30)) (by decide)
  rw [show max (13 : Int) 0 = 13 from rfl, hb0] at K1
  clear hb0
  go_enter Try.func14, Try.ntmps14
  go_wp2_with fail
  refine K1.mono ?_
  rintro e w1 ⟨rfl, Q1, m1⟩
  have i1 := i0.fr m1 id
  have f1 := fr_nil f0 m1
  have hF1 : ∀ k, (none : Option Nat) = some k → w.heap.size + 1 ≤ k := fun _ e => by cases e
  obtain ⟨c0, c1, c2⟩ := three6 i1
  clear i0 f0 K1 m1
  have KB2 := mnum1 Q1 3 (.inl (by show (13 : Int) ≤ _; decide))
  go_wp2_with fail
  refine KB2.mono ?_
  rintro e w2 ⟨rfl, F2, Q2, M2⟩
  have i2 := mv_is i1 M2 (by omega) (fun e => by have := hF1 _ e; omega)
  have f2 := (mv_fr f1 M2 (by omega) (fun j hj => by have := hF1 j hj; omega)).1
  have hF2 : ∀ k, F2 = some k → w.heap.size + 1 ≤ k := fun k hk => by
    rcases M2.2 with e | ⟨g, e, hg⟩
    · exact hF1 k (e ▸ hk)
    · rw [e] at hk
      injection hk with hk
      have := i1.lt
      omega
  clear KB2 Q1 M2 i1 f1 hF1 c0 c1 c2
  obtain ⟨c0, c1, c2⟩ := three6 i2
  have KB3 := mnum4 Q2 a (.inl (by rw [Pk.S.num_L]; show (13 : Int) ≤ _; decide))
  go_wp2_with fail
  refine KB3.mono ?_
  rintro e w3 ⟨rfl, F3, Q3, M3⟩
  have i3 := mv_is i2 M3 (by omega) (fun e => by have := hF2 _ e; omega)
  have f3 := (mv_fr f2 M3 (by omega) (fun j hj => by have := hF2 j hj; omega)).1
  have hF3 : ∀ k, F3 = some k → w.heap.size + 1 ≤ k := fun k hk => by
    rcases M3.2 with e | ⟨g, e, hg⟩
    · exact hF2 k (e ▸ hk)
    · rw [e] at hk
      injection hk with hk
      have := i2.lt
      omega
  clear KB3 Q2 M3 i2 f2 hF2 c0 c1 c2
  obtain ⟨c0, c1, c2⟩ := three6 i3
  have KB4 := mnum4 Q3 d (.inl (by rw [Pk.S.num_L, Pk.S.num_L]; show (13 : Int) ≤ _; decide))
  go_wp2_with fail
  refine KB4.mono ?_
  rintro e w4 ⟨rfl, F4, Q4, M4⟩
  have i4 := mv_is i3 M4 (by omega) (fun e => by have := hF3 _ e; omega)
  have f4 := (mv_fr f3 M4 (by omega) (fun j hj => by have := hF3 j hj; omega)).1
  have hF4 : ∀ k, F4 = some k → w.heap.size + 1 ≤ k := fun k hk => by
    rcases M4.2 with e | ⟨g, e, hg⟩
    · exact hF3 k (e ▸ hk)
    · rw [e] at hk
      injection hk with hk
      have := i3.lt
      omega
  clear KB4 Q3 M4 i3 f3 hF3 c0 c1 c2
  obtain ⟨c0, c1, c2⟩ := three6 i4
  have KB5 := mnum4 Q4 g (.inl (by rw [Pk.S.num_L, Pk.S.num_L, Pk.S.num_L]; show (13 : Int) ≤ _; decide))
  go_wp2_with fail
  refine KB5.mono ?_
  rintro e w5 ⟨rfl, F5, Q5, M5⟩
  have i5 := mv_is i4 M5 (by omega) (fun e => by have := hF4 _ e; omega)
  have f5 := (mv_fr f4 M5 (by omega) (fun j hj => by have := hF4 j hj; omega)).1
  have hF5 : ∀ k, F5 = some k → w.heap.size + 1 ≤ k := fun k hk => by
    rcases M5.2 with e | ⟨g, e, hg⟩
    · exact hF4 k (e ▸ hk)
    · rw [e] at hk
      injection hk with hk
      have := i4.lt
      omega
  clear KB5 Q4 M5 i4 f4 hF4 c0 c1 c2
  obtain ⟨c0, c1, c2⟩ := three6 i5
  have KD := mdone_any Q5
  have eN : (((((⟨13, [], 0⟩ : Pk.S).num 1 3).num 4 a).num 4 d).num 4 g).done = blL a d g := nums_bl a d g
  rw [eN] at KD
  clear Q5 eN c0 c1 c2 i5 hF5
  go_wp2_with fail
  refine KD.mono ?_
  rintro e w6 ⟨rfl, q, rfl⟩
  have f6 := f5.drewN q
  clear KD
  generalize w5.drewN q = w6 at *
  go_wp2_with fail
  go_ret2
  exact ⟨rfl, f6⟩
set_option maxHeartbeats 1000000 in
theorem refrblock_any (s : ByteArray) (w : World) :
    Calls Try.prog 20 #[.string s] w fun e w' => e = .returned (.tuple #[(rblL (bytesOf s)).1.val, .int .i64 (rblL (bytesOf s)).2]) ∧ Fr (fun _ => False) w w' := by
  have hway := rbl_way s
  have K0 := fun W b (h : Rm W b s false) => mrnum_any (r := ⟨s, false⟩) h 1 (by omega)
  have K1 := fun W b h => mrnum_any (w := W) (b := b) (r := ((⟨s, false⟩ : Rs).aft 1)) h 4 (by omega)
  have K2 := fun W b h => mrnum_any (w := W) (b := b) (r := (((⟨s, false⟩ : Rs).aft 1).aft 4)) h 4 (by omega)
  have K3 := fun W b h => mrnum_any (w := W) (b := b) (r := ((((⟨s, false⟩ : Rs).aft 1).aft 4).aft 4)) h 4 (by omega)
  have KE := fun W b h => mrend_any (w := W) (b := b) (r := (((((⟨s, false⟩ : Rs).aft 1).aft 4).aft 4).aft 4)) h
  generalize val (bytesOf ((⟨s, false⟩ : Rs).tk 1)) = k at *
  generalize val (bytesOf (((⟨s, false⟩ : Rs).aft 1).tk 4)) = a at *
  generalize val (bytesOf ((((⟨s, false⟩ : Rs).aft 1).aft 4).tk 4)) = d at *
  generalize val (bytesOf (((((⟨s, false⟩ : Rs).aft 1).aft 4).aft 4).tk 4)) = g at *
  generalize (((((⟨s, false⟩ : Rs).aft 1).aft 4).aft 4).aft 4).fin = x at *
  generalize (((((⟨s, false⟩ : Rs).aft 1).aft 4).aft 4).aft 4) = r4 at *
  generalize ((((⟨s, false⟩ : Rs).aft 1).aft 4).aft 4) = r3 at *
  generalize (((⟨s, false⟩ : Rs).aft 1).aft 4) = r2 at *
  generalize ((⟨s, false⟩ : Rs).aft 1) = r1 at *
  have i0 : Is (w.alloc (.cells #[.int .i64 0, .int .i64 0, .int .i64 0] 30)) w.heap.size 30 #[.int .i64 0, .int .i64 0, .int .i64 0] := Is.new _ _ _
  have f0 : Fr (fun _ => False) w (w.alloc (.cells #[.int .i64 0, .int .i64 0, .int .i64 0] 30)) := (Fr.refl _ w).alloc _
  have hb0 : (w.alloc (.cells #[.int .i64 0, .int .i64 0, .int .i64 0] 30)).heap.size = w.heap.size + 1 := by simp
  generalize rblL (bytesOf s) = R at *
  have HW := Lib.hid hway
  clear hway
  go_enter Try.func20, Try.ntmps20
  go_wp2_with fail
  have hR1 : Rm ((w.alloc (.cells #[.int .i64 0, .int .i64 0, .int .i64 0] 30)).alloc (.cells #[.string s, .bool false] 89)) (w.heap.size + 1) s false := by rw [← hb0]; exact Is.new _ _ _
  have hi1 := i0.alloc (.cells #[.string s, .bool false] 89)
  have hf1 := f0.alloc (.cells #[.string s, .bool false] 89)
  generalize (w.alloc (.cells #[.int .i64 0, .int .i64 0, .int .i64 0] 30)).alloc (.cells #[.string s, .bool false] 89) = w1 at *
  have R1 := hR1
  have i1 := hi1
  have f1 := hf1
  clear hR1 hi1 hf1 i0 f0 hb0
  refine (K0 w1 _ R1).mono ?_
  rintro e w2 ⟨rfl, R2, m2⟩
  have i2 := i1.fr m2 (by omega)
  have f2 : Fr (fun _ => False) w w2 := f1.trans m2 (fun j hj e => by omega)
  clear R1 i1 f1 m2 K0
  go_wp2_with fail
  refine (K1 w2 _ R2).mono ?_
  rintro e w3 ⟨rfl, R3, m3⟩
  have i3 := i2.fr m3 (by omega)
  have f3 : Fr (fun _ => False) w w3 := f2.trans m3 (fun j hj e => by omega)
  clear R2 i2 f2 m3 K1
  go_wp2_with fail
  refine (K2 w3 _ R3).mono ?_
  rintro e w4 ⟨rfl, R4, m4⟩
  have i4 := i3.fr m4 (by omega)
  have f4 : Fr (fun _ => False) w w4 := f3.trans m4 (fun j hj e => by omega)
  clear R3 i3 f3 m4 K2
  go_wp2_with fail
  refine (K3 w4 _ R4).mono ?_
  rintro e w5 ⟨rfl, R5, m5⟩
  have i5 := i4.fr m5 (by omega)
  have f5 : Fr (fun _ => False) w w5 := f4.trans m5 (fun j hj e => by omega)
  clear R4 i4 f4 m5 K3
  have i6 := i5.alloc (.cells #[.int .i64 a, .int .i64 d, .int .i64 g] 30)
  have j6 : Is (w5.alloc (.cells #[.int .i64 a, .int .i64 d, .int .i64 g] 30)) w5.heap.size 30 #[.int .i64 a, .int .i64 d, .int .i64 g] := Is.new _ _ _
  have f6 := f5.alloc (.cells #[.int .i64 a, .int .i64 d, .int .i64 g] 30)
  have R6 : Rm (w5.alloc (.cells #[.int .i64 a, .int .i64 d, .int .i64 g] 30)) (w.heap.size + 1) r4.s r4.bad := Is.alloc R5 _
  have KE6 := KE _ _ R6
  have m0 := three6 i6
  have n0 := three6 j6
  have z0 := i6.frozen 0
  have z1 := i6.frozen 1
  have z2 := i6.frozen 2
  clear KE R5 R6 i5 f5
  by_cases hk : k = 3
  · by_cases hx : x = 0
    · have e1 : (k != 3) = false := by simp [hk]
      have e2 : (x != 0) = false := by simp [hx]
      have hR : R = (⟨a, d, g⟩, 0) := by rw [HW.out, if_pos ⟨hk, hx⟩]
      have HR := Lib.hid hR
      clear hR hk hx HW
      go_wp2_with fail
      refine KE6.mono ?_
      rintro e w7 ⟨rfl, hw7⟩
      subst hw7
      clear KE6
      generalize w5.alloc (.cells #[.int .i64 a, .int .i64 d, .int .i64 g] 30) = w6 at *
      go_wp2_with fail
      have i7 := ((i6.set 0 (.int .i64 a)).set 1 (.int .i64 d)).set 2 (.int .i64 g)
      have f7 := ((f6.setCell (p := ⟨w.heap.size, 0, none⟩) (.inr (Nat.le_refl _)) (.int .i64 a)).setCell (p := ⟨w.heap.size, 1, none⟩) (.inr (Nat.le_refl _)) (.int .i64 d)).setCell (p := ⟨w.heap.size, 2, none⟩) (.inr (Nat.le_refl _)) (.int .i64 g)
      clear m0 n0 z0 z1 z2 i6 j6 f6
      generalize ((w6.setCell ⟨w.heap.size, 0, none⟩ (.int .i64 a)).setCell ⟨w.heap.size, 1, none⟩ (.int .i64 d)).setCell ⟨w.heap.size, 2, none⟩ (.int .i64 g) = W at *
      obtain ⟨m0, m1, m2⟩ := three6 i7
      rw [HR.out]
      exact bodyPost_ret (v := .tuple #[.agg #[.int .i64 a, .int .i64 d, .int .i64 g], .int .i64 0]) (by simp [results, Try.results20, go_sem, m0, m1, m2]) rfl ⟨rfl, f7⟩
    · have e1 : (k != 3) = false := by simp [hk]
      have e2 : (x != 0) = true := by simpa using hx
      have hR : R = (⟨0, 0, 0⟩, 3) := by rw [HW.out, if_neg (fun h => hx h.2)]
      have HR := Lib.hid hR
      clear hR hk hx HW
      go_wp2_with fail
      refine KE6.mono ?_
      rintro e w7 ⟨rfl, hw7⟩
      subst hw7
      clear KE6
      go_wp2_with fail
      have i7 := ((i6.set 0 (.int .i64 0)).set 1 (.int .i64 0)).set 2 (.int .i64 0)
      have f7 := ((f6.setCell (p := ⟨w.heap.size, 0, none⟩) (.inr (Nat.le_refl _)) (.int .i64 0)).setCell (p := ⟨w.heap.size, 1, none⟩) (.inr (Nat.le_refl _)) (.int .i64 0)).setCell (p := ⟨w.heap.size, 2, none⟩) (.inr (Nat.le_refl _)) (.int .i64 0)
      clear m0 n0 z0 z1 z2 i6 j6 f6
      generalize (((w5.alloc (.cells #[.int .i64 a, .int .i64 d, .int .i64 g] 30)).setCell ⟨w.heap.size, 0, none⟩ (.int .i64 0)).setCell ⟨w.heap.size, 1, none⟩ (.int .i64 0)).setCell ⟨w.heap.size, 2, none⟩ (.int .i64 0) = W at *
      obtain ⟨m0, m1, m2⟩ := three6 i7
      rw [HR.out]
      exact bodyPost_ret (v := .tuple #[.agg #[.int .i64 0, .int .i64 0, .int .i64 0], .int .i64 3]) (by simp [results, Try.results20, go_sem, m0, m1, m2]) rfl ⟨rfl, f7⟩
  · have e1 : (k != 3) = true := by simpa using hk
    have hR : R = (⟨0, 0, 0⟩, 3) := by rw [HW.out, if_neg (fun h => hk h.1)]
    have HR := Lib.hid hR
    clear hR hk HW KE6
    go_wp2_with fail
    have i7 := ((i6.set 0 (.int .i64 0)).set 1 (.int .i64 0)).set 2 (.int .i64 0)
    have f7 := ((f6.setCell (p := ⟨w.heap.size, 0, none⟩) (.inr (Nat.le_refl _)) (.int .i64 0)).setCell (p := ⟨w.heap.size, 1, none⟩) (.inr (Nat.le_refl _)) (.int .i64 0)).setCell (p := ⟨w.heap.size, 2, none⟩) (.inr (Nat.le_refl _)) (.int .i64 0)
    clear m0 n0 z0 z1 z2 i6 j6 f6
    generalize (((w5.alloc (.cells #[.int .i64 a, .int .i64 d, .int .i64 g] 30)).setCell ⟨w.heap.size, 0, none⟩ (.int .i64 0)).setCell ⟨w.heap.size, 1, none⟩ (.int .i64 0)).setCell ⟨w.heap.size, 2, none⟩ (.int .i64 0) = W at *
    obtain ⟨m0, m1, m2⟩ := three6 i7
    rw [HR.out]
    exact bodyPost_ret (v := .tuple #[.agg #[.int .i64 0, .int .i64 0, .int .i64 0], .int .i64 3]) (by simp [results, Try.results20, go_sem, m0, m1, m2]) rfl ⟨rfl, f7⟩
end Go.Proofs.Ytmohefkingnknaa.Te

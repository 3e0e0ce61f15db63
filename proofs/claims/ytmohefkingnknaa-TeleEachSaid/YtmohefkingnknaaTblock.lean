/- The contracts of Block and ReadBlock, the program's and the document's. -/
import Derived.Test.YtmohefkingnknaaTelb
import Derived.Test.YtmohefkingnknaaTfits
import Derived.Test.YtmohefkingnknaaTmv
import Derived.Test.YtmohefkingnknaaPtext
import Derived.Test.YtmohefkingnknaaPclone
import Derived.Test.YtmohefkingnknaaPmnum
import Derived.Test.YtmohefkingnknaaPmread
namespace Go.Proofs.Ytmohefkingnknaa.Te
open Go.RowKit Go.Proofs.Ytmohefkingnknaa.Pa

def Bl.val (x : Bl) : Value := .agg #[.int .i64 x.a, .int .i64 x.d, .int .i64 x.g]

set_option maxHeartbeats 1000000 in
theorem block_any (a d g : Int) (w : World) :
    Calls Try.prog 13 #[.agg #[.int .i64 a, .int .i64 d, .int .i64 g]] w fun e w' => e = .returned (.tuple #[.string ⟨(blL a d g).1.toArray⟩, .int .i64 (blL a d g).2]) ∧ Fr (fun _ => False) w w' := by
  have i0 : Is (w.alloc (.cells #[.int .i64 a, .int .i64 d, .int .i64 g] 30)) w.heap.size 30 #[.int .i64 a, .int .i64 d, .int .i64 g] := Is.new _ _ _
  have f0 : Fr (fun _ => False) w (w.alloc (.cells #[.int .i64 a, .int .i64 d, .int .i64 g] 30)) := (Fr.refl _ w).alloc _
  have hb0 : (w.alloc (.cells #[.int .i64 a, .int .i64 d, .int .i64 g] 30)).heap.size = w.heap.size + 1 := by simp
  go_enter Try.func13, Try.ntmps13
  go_wp2_with fail
  refine (new_any _ _).mono ?_
  rintro e w1 ⟨rfl, hw1⟩
  have Q1 := new_wr 13 (w.alloc (.cells #[.int .i64 a, .int .i64 d, .int .i64 g] 30)) (by omega)
  have f1 : Fr (fun _ => False) w w1 := by rw [hw1]; exact f0.alloc _
  have i1 : Is w1 w.heap.size 30 #[.int .i64 a, .int .i64 d, .int .i64 g] := by rw [hw1]; exact i0.alloc _
  rw [← hw1, show max (13 : Int) 0 = 13 from rfl, hb0] at Q1
  clear hw1 i0 f0
  simp only [World.size_alloc]
  go_wp2_with fail
  have Q2 := Wr.fr Q1 ((Fr.refl (fun _ => False) w1).alloc (.cells #[.int .i64 3] 3)) id (fun _ _ => id)
  have hlt := Q1.lt
  refine (byte_any Q2 _ _ [(3 : Int)] (Rd.one w1 _ _) (blk_ne (by omega)) (fun _ e => by cases e) (by simp) (.inl (by show (13 : Int) ≤ _; omega))).mono ?_
  rintro e w3 ⟨rfl, F3, Q3, M3⟩
  have i3 : Is w3 w.heap.size 30 #[.int .i64 a, .int .i64 d, .int .i64 g] := mv_is (i1.alloc _) M3 (by omega) (fun e => by cases e)
  obtain ⟨f3, hF3⟩ := mv_fr (f1.alloc (.cells #[.int .i64 3] 3)) M3 (by omega) (fun _ e => by cases e)
  obtain ⟨c0, c1, c2⟩ : w3.cell? ⟨w.heap.size, 0, none⟩ = some (.int .i64 a) ∧ w3.cell? ⟨w.heap.size, 1, none⟩ = some (.int .i64 d) ∧ w3.cell? ⟨w.heap.size, 2, none⟩ = some (.int .i64 g) := ⟨(i3.cell 0).trans rfl, (i3.cell 1).trans rfl, (i3.cell 2).trans rfl⟩
  clear Q1 Q2 M3 f1 i1 hlt hb0 i3
  go_wp2_with fail
  have Q4 := Wr.fr Q3 ((Fr.refl (fun _ => False) w3).alloc (.cells #[.int .i64 a, .int .i64 d, .int .i64 g] 3)) id (fun _ _ => id)
  have r4 : Rd (w3.alloc (.cells #[.int .i64 a, .int .i64 d, .int .i64 g] 3)) (some ⟨w3.heap.size, 0, none⟩) ([a, d, g].map (Value.int .i64)) := ints_rd w3 [a, d, g]
  have hlt := Q3.lt
  refine (long_any Q4 _ _ [a, d, g] r4 (blk_ne (by omega)) (fun k hk => blk_ne (by have := Q3.ltF k hk; omega)) (by simp) (.inl (by rw [Pk.S.nums_L]; show (13 : Int) ≤ _; omega))).mono ?_
  rintro e w5 ⟨rfl, F5, Q5, M5⟩
  obtain ⟨f5, _⟩ := mv_fr (f3.alloc (.cells #[.int .i64 a, .int .i64 d, .int .i64 g] 3)) M5 (by omega) hF3
  clear Q3 Q4 M5 f3 hlt hF3 r4 c0 c1 c2
  have KD := done_any Q5
  have eN : (((⟨13, [], 0⟩ : Pk.S).nums 1 [3]).nums 4 [a, d, g]).done = blL a d g := nums_bl a d g
  rw [eN] at KD
  clear Q5 eN
  go_wp2_with fail
  refine KD.mono ?_
  rintro e w6 ⟨rfl, q, rfl⟩
  go_wp2
  go_ret2
  exact ⟨rfl, f5.drewN q⟩

/-- the reader's way through a block's payload -/
theorem rbl_way (s : ByteArray) : rblL (bytesOf s) = if val (bytesOf ((⟨s, false⟩ : Rs).tk 1)) = 3 ∧ (((((⟨s, false⟩ : Rs).aft 1).aft 4).aft 4).aft 4).fin = 0 then (⟨val (bytesOf (((⟨s, false⟩ : Rs).aft 1).tk 4)), val (bytesOf ((((⟨s, false⟩ : Rs).aft 1).aft 4).tk 4)), val (bytesOf (((((⟨s, false⟩ : Rs).aft 1).aft 4).aft 4).tk 4))⟩, 0) else (⟨0, 0, 0⟩, 3) := by
  unfold rblL
  rw [bytesOf_length]
  by_cases hs : s.size = 13
  · obtain ⟨e1, e2, e3, e4, e5, e6⟩ := reads_bl s hs
    have hf : (((((⟨s, false⟩ : Rs).aft 1).aft 4).aft 4).aft 4).fin = 0 := by
      unfold Rs.fin
      rw [e5, if_neg (by decide), if_pos (by rw [size_of, e6]; rfl)]
    rw [hf, e1, e2, e3, e4]
    by_cases hk : val ((bytesOf s).take 1) = 3
    · rw [if_pos ⟨hs, hk⟩, if_pos ⟨hk, rfl⟩]
    · rw [if_neg (fun h => hk h.2), if_neg (fun h => hk h.1)]
  · have hf : (((((⟨s, false⟩ : Rs).aft 1).aft 4).aft 4).aft 4).fin ≠ 0 := by
      unfold Rs.fin
      rcases reads_no s hs with h | h
      · rw [h, if_pos rfl]; decide
      · split
        · decide
        · rw [if_neg (by omega)]; decide
    rw [if_neg (fun h => hs h.1), if_neg (fun h => hf h.2)]
theorem three6 {w : World} {b : Nat} {t : TypeId} {a0 a1 a2 : Value} (h : Is w b t #[a0, a1, a2]) : w.cell? ⟨b, 0, none⟩ = some a0 ∧ w.cell? ⟨b, 1, none⟩ = some a1 ∧ w.cell? ⟨b, 2, none⟩ = some a2 :=
  ⟨(h.cell 0).trans rfl, (h.cell 1).trans rfl, (h.cell 2).trans rfl⟩
set_option maxHeartbeats 1000000 in
theorem rblock_any (s : ByteArray) (w : World) :
    Calls Try.prog 19 #[.string s] w fun e w' => e = .returned (.tuple #[(rblL (bytesOf s)).1.val, .int .i64 (rblL (bytesOf s)).2]) ∧ Fr (fun _ => False) w w' := by
  have hway := rbl_way s
  have K0 := fun W b (h : Re W b s false) => rbyte_any (r := ⟨s, false⟩) h
  have K1 := fun W b h => rlong_any (w := W) (b := b) (r := ((⟨s, false⟩ : Rs).aft 1)) h
  have K2 := fun W b h => rlong_any (w := W) (b := b) (r := (((⟨s, false⟩ : Rs).aft 1).aft 4)) h
  have K3 := fun W b h => rlong_any (w := W) (b := b) (r := ((((⟨s, false⟩ : Rs).aft 1).aft 4).aft 4)) h
  have KE := fun W b h => end_any (w := W) (b := b) (r := (((((⟨s, false⟩ : Rs).aft 1).aft 4).aft 4).aft 4)) h
  generalize val (bytesOf ((⟨s, false⟩ : Rs).tk 1)) = k at *
  generalize val (bytesOf (((⟨s, false⟩ : Rs).aft 1).tk 4)) = a at *
  generalize val (bytesOf ((((⟨s, false⟩ : Rs).aft 1).aft 4).tk 4)) = d at *
  generalize val (bytesOf (((((⟨s, false⟩ : Rs).aft 1).aft 4).aft 4).tk 4)) = g at *
  generalize (((((⟨s, false⟩ : Rs).aft 1).aft 4).aft 4).aft 4).fin = x at *
  generalize (((((⟨s, false⟩ : Rs).aft 1).aft 4).aft 4).aft 4) = r4 at *
  generalize ((((⟨s, false⟩ : Rs).aft 1).aft 4).aft 4) = r3 at *
  generalize (((⟨s, false⟩ : Rs).aft 1).aft 4) = r2 at *
  generalize ((⟨s, false⟩ : Rs).aft 1) = r1 at *
  have i0 : Is (w.alloc (.cells #[.int .i64 0, .int .i64 0, .int .i64 0] 30)) w.heap.size 30 #[.int .i64 0, .int .i64 0, .int .i64 0] := Is.new _ _ _
  have f0 : Fr (fun _ => False) w (w.alloc (.cells #[.int .i64 0, .int .i64 0, .int .i64 0] 30)) := (Fr.refl _ w).alloc _
  have hb0 : (w.alloc (.cells #[.int .i64 0, .int .i64 0, .int .i64 0] 30)).heap.size = w.heap.size + 1 := by simp
  generalize rblL (bytesOf s) = R at *
  have HW := Lib.hid hway
  clear hway
  go_enter Try.func19, Try.ntmps19
  go_wp2_with fail
  refine (read_any s _).mono ?_
  rintro e w1 ⟨rfl, hw1⟩
  rw [hb0]
  have R1 : Re w1 (w.heap.size + 1) s false := by rw [hw1, ← hb0]; exact Is.new _ _ _
  have i1 : Is w1 w.heap.size 30 #[.int .i64 0, .int .i64 0, .int .i64 0] := by rw [hw1]; exact i0.alloc _
  have f1 : Fr (fun _ => False) w w1 := by rw [hw1]; exact f0.alloc _
  clear hw1 i0 f0 hb0
  go_wp2_with fail
  refine (K0 w1 _ R1).mono ?_
  rintro e w2 ⟨rfl, R2, m2⟩
  have i2 := i1.fr m2 (by omega)
  have f2 : Fr (fun _ => False) w w2 := f1.trans m2 (fun j hj e => by omega)
  clear R1 i1 f1 m2 K0
  go_wp2_with fail
  refine (K1 w2 _ R2).mono ?_
  rintro e w3 ⟨rfl, R3, m3⟩
  have i3 := i2.fr m3 (by omega)
  have f3 : Fr (fun _ => False) w w3 := f2.trans m3 (fun j hj e => by omega)
  clear R2 i2 f2 m3 K1
  go_wp2_with fail
  refine (K2 w3 _ R3).mono ?_
  rintro e w4 ⟨rfl, R4, m4⟩
  have i4 := i3.fr m4 (by omega)
  have f4 : Fr (fun _ => False) w w4 := f3.trans m4 (fun j hj e => by omega)
  clear R3 i3 f3 m4 K2
  go_wp2_with fail
  refine (K3 w4 _ R4).mono ?_
  rintro e w5 ⟨rfl, R5, m5⟩
  have i5 := i4.fr m5 (by omega)
  have f5 : Fr (fun _ => False) w w5 := f4.trans m5 (fun j hj e => by omega)
  clear R4 i4 f4 m5 K3
  have i6 := i5.alloc (.cells #[.int .i64 a, .int .i64 d, .int .i64 g] 30)
  have j6 : Is (w5.alloc (.cells #[.int .i64 a, .int .i64 d, .int .i64 g] 30)) w5.heap.size 30 #[.int .i64 a, .int .i64 d, .int .i64 g] := Is.new _ _ _
  have f6 := f5.alloc (.cells #[.int .i64 a, .int .i64 d, .int .i64 g] 30)
  have R6 : Re (w5.alloc (.cells #[.int .i64 a, .int .i64 d, .int .i64 g] 30)) (w.heap.size + 1) r4.s r4.bad := Is.alloc R5 _
  have KE6 := KE _ _ R6
  have m0 := three6 i6
  have n0 := three6 j6
  have z0 := i6.frozen 0
  have z1 := i6.frozen 1
  have z2 := i6.frozen 2
  clear KE R5 R6 i5 f5
  by_cases hk : k = 3
  · by_cases hx : x = 0
    · have e1 : (k != 3) = false := by simp [hk]
      have e2 : (x != 0) = false := by simp [hx]
      have hR : R = (⟨a, d, g⟩, 0) := by rw [HW.out, if_pos ⟨hk, hx⟩]
      have HR := Lib.hid hR
      clear hR hk hx HW
      go_wp2_with fail
      refine KE6.mono ?_
      rintro e w7 ⟨rfl, hw7⟩
      subst hw7
      clear KE6
      generalize w5.alloc (.cells #[.int .i64 a, .int .i64 d, .int .i64 g] 30) = w6 at *
      go_wp2_with fail
      have i7 := ((i6.set 0 (.int .i64 a)).set 1 (.int .i64 d)).set 2 (.int .i64 g)
      have f7 := ((f6.setCell (p := ⟨w.heap.size, 0, none⟩) (.inr (Nat.le_refl _)) (.int .i64 a)).setCell (p := ⟨w.heap.size, 1, none⟩) (.inr (Nat.le_refl _)) (.int .i64 d)).setCell (p := ⟨w.heap.size, 2, none⟩) (.inr (Nat.le_refl _)) (.int .i64 g)
      clear m0 n0 z0 z1 z2 i6 j6 f6
      generalize ((w6.setCell ⟨w.heap.size, 0, none⟩ (.int .i64 a)).setCell ⟨w.heap.size, 1, none⟩ (.int .i64 d)).setCell ⟨w.heap.size, 2, none⟩ (.int .i64 g) = W at *
      obtain ⟨m0, m1, m2⟩ := three6 i7
      rw [HR.out]
      exact bodyPost_ret (v := .tuple #[.agg #[.int .i64 a, .int .i64 d, .int .i64 g], .int .i64 0]) (by simp [results, Try.results19, go_sem, m0, m1, m2]) rfl ⟨rfl, f7⟩
    · have e1 : (k != 3) = false := by simp [hk]
      have e2 : (x != 0) = true := by simpa using hx
      have hR : R = (⟨0, 0, 0⟩, 3) := by rw [HW.out, if_neg (fun h => hx h.2)]
      have HR := Lib.hid hR
      clear hR hk hx HW
      go_wp2_with fail
      refine KE6.mono ?_
      rintro e w7 ⟨rfl, hw7⟩
      subst hw7
      clear KE6
      go_wp2_with fail
      have i7 := ((i6.set 0 (.int .i64 0)).set 1 (.int .i64 0)).set 2 (.int .i64 0)
      have f7 := ((f6.setCell (p := ⟨w.heap.size, 0, none⟩) (.inr (Nat.le_refl _)) (.int .i64 0)).setCell (p := ⟨w.heap.size, 1, none⟩) (.inr (Nat.le_refl _)) (.int .i64 0)).setCell (p := ⟨w.heap.size, 2, none⟩) (.inr (Nat.le_refl _)) (.int .i64 0)
      clear m0 n0 z0 z1 z2 i6 j6 f6
      generalize (((w5.alloc (.cells #[.int .i64 a, .int .i64 d, .int .i64 g] 30)).setCell ⟨w.heap.size, 0, none⟩ (.int .i64 0)).setCell ⟨w.heap.size, 1, none⟩ (.int .i64 0)).setCell ⟨w.heap.size, 2, none⟩ (.int .i64 0) = W at *
      obtain ⟨m0, m1, m2⟩ := three6 i7
      rw [HR.out]
      exact bodyPost_ret (v := .tuple #[.agg #[.int .i64 0, .int .i64 0, .int .i64 0], .int .i64 3]) (by simp [results, Try.results19, go_sem, m0, m1, m2]) rfl ⟨rfl, f7⟩
  · have e1 : (k != 3) = true := by simpa using hk
    have hR : R = (⟨0, 0, 0⟩, 3) := by rw [HW.out, if_neg (fun h => hk h.1)]
    have HR := Lib.hid hR
    clear hR hk HW KE6
    go_wp2_with fail
    have i7 := ((i6.set 0 (.int .i64 0)).set 1 (.int .i64 0)).set 2 (.int .i64 0)
    have f7 := ((f6.setCell (p := ⟨w.heap.size, 0, none⟩) (.inr (Nat.le_refl _)) (.int .i64 0)).setCell (p := ⟨w.heap.size, 1, none⟩) (.inr (Nat.le_refl _)) (.int .i64 0)).setCell (p := ⟨w.heap.size, 2, none⟩) (.inr (Nat.le_refl _)) (.int .i64 0)
    clear m0 n0 z0 z1 z2 i6 j6 f6
    generalize (((w5.alloc (.cells #[.int .i64 a, .int .i64 d, .int .i64 g] 30)).setCell ⟨w.heap.size, 0, none⟩ (.int .i64 0)).setCell ⟨w.heap.size, 1, none⟩ (.int .i64 0)).setCell ⟨w.heap.size, 2, none⟩ (.int .i64 0) = W at *
    obtain ⟨m0, m1, m2⟩ := three6 i7
    rw [HR.out]
    exact bodyPost_ret (v := .tuple #[.agg #[.int .i64 0, .int .i64 0, .int .i64 0], .int .i64 3]) (by simp [results, Try.results19, go_sem, m0, m1, m2]) rfl ⟨rfl, f7⟩
end Go.Proofs.Ytmohefkingnknaa.Te

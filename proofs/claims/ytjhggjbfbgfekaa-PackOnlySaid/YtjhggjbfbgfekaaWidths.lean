/- The walk of PackWidths: for all whole numbers the law answers true, and nothing that was there has turned. -/
import Derived.Test.YtjhggjbfbgfekaaFacts
import Derived.Laws.Bits64
namespace Go.Proofs.Ytjhggjbfbgfekaa
open Go.RowKit
theorem mod_bd (a m : Int) (h0 : 0 < m) (h1 : m ≤ 4294967296) : ∃ x, wrap64 ((IntKind.u64.wrap a).tmod m) = x ∧ 0 ≤ x ∧ x < m := by
  refine ⟨_, rfl, ?_⟩
  have hu : 0 ≤ IntKind.u64.wrap a := wrap_u64_nonneg a
  generalize IntKind.u64.wrap a = y at hu
  rw [Int.tmod_eq_emod_of_nonneg hu]
  have h2 := Int.emod_nonneg y (show m ≠ 0 by omega)
  have h3 := Int.emod_lt_of_pos y h0
  generalize y % m = z at h2 h3
  unfold wrap64
  omega

/-- a writer with room for one number, and the number -/
theorem one_end {width : Nat} {n : Int} (hf : Pk.fits width n = true) : ((⟨max (width : Int) 0, [], 0⟩ : Pk.S).num width n).done = (Pk.digits width n, 0) := by
  have hl : ((Pk.digits width n).length : Int) ≤ max (width : Int) 0 - ((([] : List UInt8).length : Nat) : Int) := by rw [Pk.digits_length]; simp
  unfold Pk.S.num
  rw [if_pos hf]
  unfold Pk.S.put
  rw [if_pos rfl, if_pos hl]
  rfl

/-- a number that is all of a text -/
theorem read_num {width : Nat} (hw : Wid width) {n : Int} (hf : Pk.fits width n = true) :
    val (bytesOf ((Rs.mk ⟨(Pk.digits width n).toArray⟩ false).tk width)) = n ∧ ((Rs.mk ⟨(Pk.digits width n).toArray⟩ false).aft width).s = ⟨#[]⟩ ∧ ((Rs.mk ⟨(Pk.digits width n).toArray⟩ false).aft width).bad = false := by
  have h := Rs.read_tk (r := Rs.mk ⟨(Pk.digits width n).toArray⟩ false) (l := Pk.digits width n) (k := []) rfl (by simp [bytesOf_mk])
  rw [Pk.digits_length] at h
  exact ⟨by rw [h.1, val_digits hw hf], bytesOf_inj h.2.1, h.2.2⟩
theorem read_byte {w : World} {b : Nat} {n : Int} (hf : Pk.fits 1 n = true) (h : Re w b ⟨(Pk.digits 1 n).toArray⟩ false) :
    Calls Try.prog 20 #[.pointer (some ⟨b, 0, none⟩)] w fun e w' => e = .returned (.int .i64 n) ∧ Re w' b ⟨#[]⟩ false ∧ Fr (fun k => k = b) w w' := by
  have K := rbyte_any (r := ⟨⟨(Pk.digits 1 n).toArray⟩, false⟩) h
  obtain ⟨h1, h2, h3⟩ := read_num (.inl rfl) hf
  rwa [h1, h2, h3] at K
theorem read_word {w : World} {b : Nat} {n : Int} (hf : Pk.fits 2 n = true) (h : Re w b ⟨(Pk.digits 2 n).toArray⟩ false) :
    Calls Try.prog 22 #[.pointer (some ⟨b, 0, none⟩)] w fun e w' => e = .returned (.int .i64 n) ∧ Re w' b ⟨#[]⟩ false ∧ Fr (fun k => k = b) w w' := by
  have K := rword_any (r := ⟨⟨(Pk.digits 2 n).toArray⟩, false⟩) h
  obtain ⟨h1, h2, h3⟩ := read_num (.inr (.inl rfl)) hf
  rwa [h1, h2, h3] at K
theorem read_long {w : World} {b : Nat} {n : Int} (hf : Pk.fits 4 n = true) (h : Re w b ⟨(Pk.digits 4 n).toArray⟩ false) :
    Calls Try.prog 23 #[.pointer (some ⟨b, 0, none⟩)] w fun e w' => e = .returned (.int .i64 n) ∧ Re w' b ⟨#[]⟩ false ∧ Fr (fun k => k = b) w w' := by
  have K := rlong_any (r := ⟨⟨(Pk.digits 4 n).toArray⟩, false⟩) h
  obtain ⟨h1, h2, h3⟩ := read_num (.inr (.inr rfl)) hf
  rwa [h1, h2, h3] at K
theorem read_less {w : World} {b : Nat} {s : ByteArray} (hs : s.size < 4) (h : Re w b s false) :
    Calls Try.prog 23 #[.pointer (some ⟨b, 0, none⟩)] w fun e w' => e = .returned (.int .i64 0) ∧ Re w' b s true ∧ Fr (fun k => k = b) w w' := by
  have K := rlong_any (r := ⟨s, false⟩) h
  obtain ⟨h1, h2, h3⟩ := Rs.read_short (r := ⟨s, false⟩) (n := 4) (by rw [← size_of]; exact hs)
  rwa [h1, h2, h3] at K
theorem end_zero {w : World} {b : Nat} (h : Re w b ⟨#[]⟩ false) :
    Calls Try.prog 27 #[.pointer (some ⟨b, 0, none⟩)] w fun e w' => e = .returned (.int .i64 0) ∧ w = w' := end_any (r := ⟨⟨#[]⟩, false⟩) h
theorem end_one {w : World} {b : Nat} {s : ByteArray} (h : Re w b s true) :
    Calls Try.prog 27 #[.pointer (some ⟨b, 0, none⟩)] w fun e w' => e = .returned (.int .i64 1) ∧ w = w' := end_any (r := ⟨s, true⟩) h
theorem Re.fr {w w1 : World} {b : Nat} {s : ByteArray} {bad : Bool} {S : Nat → Prop} (h : Re w b s bad) (f : Fr S w w1) (hn : ¬ S b) : Re w1 b s bad := Is.fr h f hn
theorem Re.drewN {w : World} {b : Nat} {s : ByteArray} {bad : Bool} (h : Re w b s bad) (n : Nat) : Re (w.drewN n) b s bad := h

set_option maxHeartbeats 1600000 in
theorem widths_walk (a b c : Int) (w : World) :
    Calls Try.prog 9 #[.int .i64 a, .int .i64 b, .int .i64 c] w fun e w' => e = .returned (.bool true) ∧ Below w.heap.size w w' := by
  obtain ⟨x, hx, x0, x1⟩ := mod_bd a 256 (by decide) (by decide)
  obtain ⟨y, hy, y0, y1⟩ := mod_bd b 65536 (by decide) (by decide)
  obtain ⟨z, hz, z0, z1⟩ := mod_bd c 4294967296 (by decide) (by decide)
  go_enter Try.func9, Try.ntmps9
  go_wp2_with fail
  refine (lives_any _).mono ?_
  rintro e w1 ⟨rfl, hf1⟩
  go_wp2_with fail
  refine (new_calls 1 _ (by decide)).mono ?_
  rintro e w2 ⟨rfl, hX, hf2⟩
  go_wp2_with fail
  refine (new_calls 2 _ (by decide)).mono ?_
  rintro e w3 ⟨rfl, hY, hf3⟩
  go_wp2_with fail
  refine (new_calls 4 _ (by decide)).mono ?_
  rintro e w4 ⟨rfl, hZ, hf4⟩
  clear hx hy hz
  have bX : w1.heap.size < w2.heap.size := hX.lt
  have bY : w2.heap.size < w3.heap.size := hY.lt
  have bZ : w3.heap.size < w4.heap.size := hZ.lt
  have hX := (hX.fr hf3 id (fun _ _ => id)).fr hf4 id (fun _ _ => id)
  have hY := hY.fr hf4 id (fun _ _ => id)
  have g := ((hf1.trans hf2 (fun _ _ h => h)).trans hf3 (fun _ _ h => h)).trans hf4 (fun _ _ h => h)
  have b1 := hf1.size
  clear hf1 hf2 hf3 hf4
  generalize w1.heap.size = p1 at *
  generalize w2.heap.size = p2 at *
  generalize w3.heap.size = p3 at *
  have sXY : Sep p1 none p2 none := Sep.new (by omega) (by simp)
  have sXZ : Sep p1 none p3 none := Sep.new (by omega) (by simp)
  have sYZ : Sep p2 none p3 none := Sep.new (by omega) (by simp)
  have fX : Pk.fits 1 x = true := fits_of x0 (by simpa using x1)
  have fY : Pk.fits 2 y = true := fits_of y0 (by simpa using y1)
  have fZ : Pk.fits 4 z = true := fits_of z0 (by simpa using z1)
  have FX := Lib.hid fX
  have FY := Lib.hid fY
  have FZ := Lib.hid fZ
  clear fX fY fZ
  -- the three writers write, one after the other
  go_wp2_with fail
  refine (byte_one hX x (.inl (by decide))).mono ?_
  rintro e w5 ⟨rfl, F5, hX5, m5⟩
  obtain ⟨g5, o5⟩ := m5.own g b1 (fun _ h => by cases h)
  have hY5 := hY.mv m5 sXY.symm
  have hZ5 := hZ.mv m5 sXZ.symm
  have s5Y := (sXY.symm.mv m5 hY.lt hY.ltF).symm
  have s5Z := (sXZ.symm.mv m5 hZ.lt hZ.ltF).symm
  clear hX hY hZ m5 g sXY sXZ
  go_wp2_with fail
  refine (word_one hY5 y (.inl (by decide))).mono ?_
  rintro e w6 ⟨rfl, F6, hY6, m6⟩
  obtain ⟨g6, o6⟩ := m6.own g5 (by omega) (fun _ h => by cases h)
  have hX6 := hX5.mv m6 s5Y
  have hZ6 := hZ5.mv m6 sYZ.symm
  have s6X := s5Y.mv m6 hX5.lt hX5.ltF
  have s6Z := (sYZ.symm.mv m6 hZ5.lt hZ5.ltF).symm
  clear hX5 hY5 hZ5 m6 g5 s5Y sYZ
  go_wp2_with fail
  refine (long_one hZ6 z (.inl (by decide))).mono ?_
  rintro e w7 ⟨rfl, F7, hZ7, m7⟩
  obtain ⟨g7, o7⟩ := m7.own g6 (by omega) (fun _ h => by cases h)
  have hX7 := hX6.mv m7 s5Z
  have hY7 := hY6.mv m7 s6Z
  clear hX6 hY6 hZ6 m7 g6 s5Z s6Z s6X o5 o6 o7
  -- what they wrote
  have dX := done_any hX7
  rw [show ((⟨max 1 0, [], 0⟩ : Pk.S).num 1 x).done = (Pk.digits 1 x, 0) from one_end (width := 1) FX.out] at dX
  go_wp2_with fail
  refine dX.mono ?_
  rintro e w8 ⟨rfl, n8, rfl⟩
  have hY8 := hY7.drewN n8
  have hZ8 := hZ7.drewN n8
  have g8 := g7.drewN n8
  clear dX hX7 hY7 hZ7 g7
  generalize w7.drewN n8 = w8 at *
  have dY := done_any hY8
  rw [show ((⟨max 2 0, [], 0⟩ : Pk.S).num 2 y).done = (Pk.digits 2 y, 0) from one_end (width := 2) FY.out] at dY
  go_wp2_with fail
  refine dY.mono ?_
  rintro e w9 ⟨rfl, n9, rfl⟩
  have hZ9 := hZ8.drewN n9
  have g9 := g8.drewN n9
  clear dY hY8 hZ8 g8
  generalize w8.drewN n9 = w9 at *
  have dZ := done_any hZ9
  rw [show ((⟨max 4 0, [], 0⟩ : Pk.S).num 4 z).done = (Pk.digits 4 z, 0) from one_end (width := 4) FZ.out] at dZ
  go_wp2_with fail
  refine dZ.mono ?_
  rintro e w10 ⟨rfl, n10, rfl⟩
  have g10 := g9.drewN n10
  clear dZ hZ9 g9
  generalize w9.drewN n10 = w10 at *
  clear b1 bX bY bZ
  -- four readers
  go_wp2_with fail
  refine (read_calls _ _).mono ?_
  rintro e r1 ⟨rfl, hP, q1⟩
  go_wp2_with fail
  refine (read_calls _ _).mono ?_
  rintro e r2 ⟨rfl, hQ, q2⟩
  go_wp2_with fail
  refine (read_calls _ _).mono ?_
  rintro e r3 ⟨rfl, hR, q3⟩
  go_wp2_with fail
  refine (read_calls _ _).mono ?_
  rintro e r4 ⟨rfl, hS, q4⟩
  have hP4 := ((hP.fr q2 id).fr q3 id).fr q4 id
  have hQ4 := (hQ.fr q3 id).fr q4 id
  have hR4 := hR.fr q4 id
  have l1 : w10.heap.size < r1.heap.size := Is.lt hP
  have l2 : r1.heap.size < r2.heap.size := Is.lt hQ
  have l3 : r2.heap.size < r3.heap.size := Is.lt hR
  have h9 := (((g10.trans q1 (fun _ _ h => h)).trans q2 (fun _ _ h => h)).trans q3 (fun _ _ h => h)).trans q4 (fun _ _ h => h)
  have l0 := g10.size
  clear q1 q2 q3 q4 g10 hP hQ hR
  generalize w10.heap.size = p1 at *
  generalize r1.heap.size = p2 at *
  generalize r2.heap.size = p3 at *
  generalize r3.heap.size = p4 at *
  go_wp2_with fail
  refine (read_byte FX.out hP4).mono ?_
  rintro e t1 ⟨rfl, hP5, f1⟩
  have hQ5 := hQ4.fr f1 (by omega)
  have hR5 := hR4.fr f1 (by omega)
  have hS5 := hS.fr f1 (by omega)
  have h10 := h9.trans f1 (fun k hk e => by omega)
  clear hP4 hQ4 hR4 hS f1 h9
  go_wp2_with fail
  refine (read_word FY.out hQ5).mono ?_
  rintro e t2 ⟨rfl, hQ6, f2⟩
  have hP6 := hP5.fr f2 (by omega)
  have hR6 := hR5.fr f2 (by omega)
  have hS6 := hS5.fr f2 (by omega)
  have h11 := h10.trans f2 (fun k hk e => by omega)
  clear hP5 hQ5 hR5 hS5 f2 h10
  go_wp2_with fail
  refine (read_long FZ.out hR6).mono ?_
  rintro e t3 ⟨rfl, hR7, f3⟩
  have hP7 := hP6.fr f3 (by omega)
  have hQ7 := hQ6.fr f3 (by omega)
  have hS7 := hS6.fr f3 (by omega)
  have h12 := h11.trans f3 (fun k hk e => by omega)
  clear hP6 hQ6 hR6 hS6 f3 h11
  go_wp2_with fail
  refine (end_zero hP7).mono ?_
  rintro e t4 ⟨rfl, rfl⟩
  go_wp2_with fail
  refine (end_zero hQ7).mono ?_
  rintro e t5 ⟨rfl, rfl⟩
  go_wp2_with fail
  refine (end_zero hR7).mono ?_
  rintro e t6 ⟨rfl, rfl⟩
  have hsz : (⟨(Pk.digits 2 y).toArray⟩ : ByteArray).size = 2 := Pk.digits_length 2 y
  generalize (⟨(Pk.digits 2 y).toArray⟩ : ByteArray) = sy at *
  have HZ := Lib.hid hsz
  clear hsz
  go_wp2_with fail
  refine (read_less (by rw [HZ.out]; decide) hS7).mono ?_
  rintro e t7 ⟨rfl, hS8, f4⟩
  have h13 := h12.trans f4 (fun k hk e => by omega)
  clear hP7 hQ7 hR7 hS7 f4 h12
  have K8 := left_any (r := ⟨sy, true⟩) hS8
  rw [show ((Rs.mk sy true).s.size : Int) = 2 by rw [show (Rs.mk sy true).s = sy from rfl, HZ.out]; rfl] at K8
  go_wp2_with fail
  refine K8.mono ?_
  rintro e t8 ⟨rfl, rfl⟩
  clear K8
  go_wp2_with fail
  refine (end_one hS8).mono ?_
  rintro e t9 ⟨rfl, rfl⟩
  go_wp2
  go_ret
  exact ⟨rfl, h13.toBelow0⟩
end Go.Proofs.Ytjhggjbfbgfekaa

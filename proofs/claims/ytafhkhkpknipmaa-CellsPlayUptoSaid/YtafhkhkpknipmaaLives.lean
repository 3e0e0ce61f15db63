/- The contract of the laws' first line: the chapter's example comes out. -/
import Derived.Test.YtafhkhkpknipmaaSeen
namespace Go.Proofs.Ytafhkhkpknipmaa
open Go.RowKit Go.Maps

theorem jn_one (s : ByteArray) : jn [s] = bytesOf s := by simp [jn]

section
variable {w : World} {b : Nat} {r : Option Nat} {m : Mm}
/-- Burn of texts that were just laid in a row -/
theorem burn_new (h : Mem w b r m) (hk : m.acts < 4611686018427387904) (p a : Int) (hp1 : -9223372036854775808 ≤ p) (hp2 : p ≤ 9223372036854775807) (ha1 : -9223372036854775808 ≤ a) (ha2 : a ≤ 9223372036854775807)
    (xs : List ByteArray) (hlen : xs.length ≤ 140737488355328) {t : List UInt8} (ht : jn xs = t) (hT : t.length ≤ 140737488355328) {k : Nat} {m' : Mm} (hE : m.burnE p a t = k) (hM : m.burnM p a t = m') :
    Calls Try.prog 12 #[.pointer (some ⟨b, 0, none⟩), .int .i64 p, .int .i64 a, .slice (some ⟨w.heap.size, 0, none⟩) xs.length xs.length] (w.alloc (.cells (xs.map Value.string).toArray 9)) fun e w' => e = .returned (.int .i64 (k : Nat)) ∧ Mem w' b r m' ∧ Fr (Foot b r) w w' ∧ w.heap.size < w'.heap.size := by
  have hx := rd_is (Is.new w 9 (xs.map Value.string).toArray)
  refine (burn_at (h.none ((Fr.refl _ w).alloc _)) hk p a hp1 hp2 ha1 ha2 xs (by simpa using hx) (fun k hk f => ?_) hlen (Nat.le_refl _) ht hT hE hM).mono fun e w' ⟨he, hm, hf⟩ => ⟨he, hm, ((Fr.refl (Foot b r) w).alloc _).trans hf fun _ _ k => k, Nat.lt_of_lt_of_le (by simp) hf.size⟩
  have hk' : k = w.heap.size := by injection hk with hk; exact hk.symm
  rcases f with e | e
  · have := h.blt; omega
  · have := h.lt k e; omega
/-- Burn without a part -/
theorem burn_nil (h : Mem w b r m) (hk : m.acts < 4611686018427387904) (p a : Int) (hp1 : -9223372036854775808 ≤ p) (hp2 : p ≤ 9223372036854775807) (ha1 : -9223372036854775808 ≤ a) (ha2 : a ≤ 9223372036854775807)
    {k : Nat} {m' : Mm} (hE : m.burnE p a [] = k) (hM : m.burnM p a [] = m') :
    Calls Try.prog 12 #[.pointer (some ⟨b, 0, none⟩), .int .i64 p, .int .i64 a, .slice none 0 0] w fun e w' => e = .returned (.int .i64 (k : Nat)) ∧ Mem w' b r m' ∧ Fr (Foot b r) w w' :=
  burn_at h hk p a hp1 hp2 ha1 ha2 [] (fun h0 => by simp at h0) (fun k hk => by cases hk) (Nat.zero_le _) (Nat.le_refl _) rfl (Nat.zero_le _) hE hM
/-- Arm of cuts that were just laid in a row -/
theorem arm_new (h : Mem w b r m) (l : List (Int × Int)) (hlen : l.length ≤ 140737488355328) (hwf : ∀ x ∈ l, (ki x.1).wf = true ∧ (ki x.2).wf = true) {m' : Mm} (hM : (m.arm fun i => cutAt l i) = m') :
    Calls Try.prog 19 #[.pointer (some ⟨b, 0, none⟩), .slice (some ⟨w.heap.size, 0, none⟩) l.length l.length] (w.alloc (.cells (cutCells l).toArray 50)) fun e w' => e = .returned (.tuple #[]) ∧ Mem w' b (some (w.heap.size + 1)) m' ∧ Fr (fun k => k = b) w w' ∧ w.heap.size < w'.heap.size := by
  subst hM
  have hx := rd_is (Is.new w 50 (cutCells l).toArray)
  have hb := h.blt
  have K := arm_any (c := l.length) (h.none ((Fr.refl _ w).alloc (.cells (cutCells l).toArray 50))) (l := l) (A := some ⟨w.heap.size, 0, none⟩) (by simpa using hx) (by intro e; have e2 : w.heap.size = b := (by injection e); omega) hlen hwf
  refine K.mono fun e w' ⟨he, hm, hf⟩ => ⟨he, ?_, ((Fr.refl (fun k => k = b) w).alloc _).trans hf fun _ _ k => k, Nat.lt_of_lt_of_le (by simp) hf.size⟩
  have e1 : (w.alloc (.cells (cutCells l).toArray 50)).heap.size = w.heap.size + 1 := by simp
  rw [e1] at hm
  exact hm
end

set_option maxRecDepth 100000 in
set_option maxHeartbeats 4000000 in
theorem lives_any (w : World) : Calls Try.prog 9 #[] w fun e w' => e = .returned (.bool true) ∧ Fr (fun k => w.heap.size ≤ k) w w' := by
  go_enter Try.func9, Try.ntmps9
  go_wp2_with fail
  refine (new_any _).mono ?_
  rintro e w1 ⟨rfl, M0, F0⟩
  obtain ⟨b, hb⟩ : ∃ b, b = w.heap.size := ⟨_, rfl⟩
  rw [← hb] at M0 ⊢
  have hb0 : w.heap.size ≤ b := by omega
  have G1 := Lib.hid (fr_nil (B := w.heap.size) (Fr.refl _ w) F0)
  have H1 := Lib.hid M0
  clear F0 hb M0
  go_wp2_with fail
  refine (burn_new H1.out (by decide) 0 5 (by decide) (by decide) (by decide) (by decide) [⟨#[97, 98]⟩, ⟨#[99]⟩] (by decide) (t := [97, 98, 99]) rfl (by decide) Ex.e1 (m' := Ex.m1) rfl).mono ?_
  rintro e w2 ⟨rfl, M2, F2, z2⟩
  have G2 := Lib.hid (fr_foot G1.out F2 hb0 fun k hk => by cases hk)
  have H2 := Lib.hid M2
  clear M2 F2 G1 H1 z2
  go_wp2_with fail
  refine (bare_at H2.out 0 (by decide) (by decide) Ex.e2).mono ?_
  rintro e w' ⟨rfl, rfl⟩
  go_wp2_with fail
  refine (burn_new H2.out (by rw [Ex.a1]; decide) 0 7 (by decide) (by decide) (by decide) (by decide) [⟨#[120]⟩] (by decide) (t := [120]) rfl (by decide) Ex.e3 Ex.e13).mono ?_
  rintro e w3 ⟨rfl, M3, F3, z3⟩
  have G3 := Lib.hid (fr_foot G2.out F3 hb0 fun k hk => by cases hk)
  have H3 := Lib.hid M3
  have q3 := M3.blt
  clear M3 F3 G2 H2 z3
  go_wp2_with fail
  refine (arm_new H3.out [(1, 2)] (by decide) (by decide) (m' := Ex.m2) rfl).mono ?_
  rintro e w4 ⟨rfl, M4, F4, z4⟩
  have G4 := Lib.hid (fr_one G3.out F4 hb0)
  have q4 : w.heap.size ≤ w3.heap.size + 1 := by omega
  obtain ⟨r, hr⟩ : ∃ r, r = w3.heap.size + 1 := ⟨_, rfl⟩
  rw [← hr] at M4 q4
  have H4 := Lib.hid M4
  clear M4 F4 G3 H3 hr
  go_wp2_with fail
  refine (burn_new H4.out (by show Ex.m1.acts < _; rw [Ex.a1]; decide) 3 0 (by decide) (by decide) (by decide) (by decide) [⟨#[97, 98, 99]⟩] (by decide) (t := [97, 98, 99]) rfl (by decide) Ex.e4 (m' := Ex.m3) rfl).mono ?_
  rintro e w5 ⟨rfl, M5, F5, z5⟩
  have G5 := Lib.hid (fr_foot G4.out F5 hb0 fun k hk => by injection hk with hk; omega)
  have H5 := Lib.hid M5
  clear M5 F5 G4 H4 z5
  go_wp2_with fail
  refine (burn_new H5.out (by rw [Ex.a3]; decide) 3 3 (by decide) (by decide) (by decide) (by decide) [⟨#[100, 101, 102, 103]⟩] (by decide) (t := [100, 101, 102, 103]) rfl (by decide) Ex.e5 (m' := Ex.m4) rfl).mono ?_
  rintro e w6 ⟨rfl, M6, F6, z6⟩
  have G6 := Lib.hid (fr_foot G5.out F6 hb0 fun k hk => by injection hk with hk; omega)
  have H6 := Lib.hid M6
  clear M6 F6 G5 H5 z6
  go_wp2_with fail
  refine (down_at H6.out Ex.e6).mono ?_
  rintro e w' ⟨rfl, rfl⟩
  go_wp2_with fail
  refine (again_any H6.out).mono ?_
  rintro e w7 ⟨rfl, M7, F7⟩
  have q6 := H6.out.blt
  have q7 := H6.out.lt r rfl
  obtain ⟨c, hc⟩ : ∃ c, c = w6.heap.size := ⟨_, rfl⟩
  rw [← hc] at M7 ⊢
  have G7 := Lib.hid (fr_nil G6.out F7)
  have H7 := Lib.hid (H6.out.none F7)
  have I7 := Lib.hid M7
  have hc0 : w.heap.size ≤ c := by omega
  have hbc : b ≠ c := by omega
  have hrc : r ≠ c := by omega
  clear M7 F7 G6 H6 hc
  go_wp2_with fail
  refine (read_at I7.out 3 0 6 (by decide) (by decide) (by decide) (by decide) (by decide) (by decide) Ex.e7 Ex.e8).mono ?_
  rintro e w' ⟨rfl, rfl⟩
  have hcmp : ((⟨[97, 98, 99, 100, 101, 255].toArray⟩ : ByteArray).toList == [97, 98, 99, 100, 101, 255]) = true := by rw [Lib.toList_data]; rfl
  go_wp2_with fail
  refine (erase_at I7.out (by decide) (fun p => ?_) 0 (by decide) (by decide) Ex.e9 (m' := Ex.n1) rfl).mono ?_
  · have := Ex.a4 p
    show Ex.m4.worn p < _
    omega
  rintro e w8 ⟨rfl, M8, F8⟩
  have G8 := Lib.hid (fr_foot G7.out F8 hc0 fun k hk => by cases hk)
  have FN := foot_not (b := b) (c := c) (r := some r) (s := none) hbc (by intro e; cases e) (by intro e; injection e with e; exact hrc e) (fun _ _ e => by cases e)
  have H8 := Lib.hid (H7.out.fr F8 FN.1 FN.2)
  have I8 := Lib.hid M8
  clear M8 F8 G7 H7 I7 FN
  go_wp2_with fail
  refine (bare_at I8.out 0 (by decide) (by decide) Ex.e10).mono ?_
  rintro e w' ⟨rfl, rfl⟩
  go_wp2_with fail
  refine (worn_at I8.out 0 (by decide) (by decide) Ex.e11).mono ?_
  rintro e w' ⟨rfl, rfl⟩
  go_wp2_with fail
  refine (worn_at H8.out 0 (by decide) (by decide) Ex.e12).mono ?_
  rintro e w' ⟨rfl, rfl⟩
  go_wp2_with fail
  go_ret
  exact ⟨rfl, G8.out⟩
end Go.Proofs.Ytafhkhkpknipmaa

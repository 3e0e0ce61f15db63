/- The walk of CellsCuts. -/
import Derived.Test.YtafhkhkpknipmaaCutsp
import Derived.Deep.LoopGhost
namespace Go.Proofs.Ytafhkhkpknipmaa
open Go.RowKit Go.Maps

theorem same_flip {P : Program} {f : FuncId} {args : Array Value} {w : World} {e0 : Ending} (h : Calls P f args w fun e w' => e = e0 ∧ w = w') : Calls P f args w fun e w' => e = e0 ∧ w' = w := h.mono fun _ _ ⟨he, hw⟩ => ⟨he, hw.symm⟩

set_option maxRecDepth 100000 in
set_option maxHeartbeats 8000000 in
theorem cuts_walk (text : ByteArray) (part more : Int) (hp1 : -9223372036854775808 ≤ part) (hp2 : part ≤ 9223372036854775807) (hm1 : -9223372036854775808 ≤ more) (hm2 : more ≤ 9223372036854775807) (ht : text.size ≤ 140737488351232) (w : World) :
    Calls Try.prog 5 #[.string text, .int .i64 part, .int .i64 more] w fun e w' => e = .returned (.bool true) ∧ Below w.heap.size w w' := by
  obtain ⟨n4, hn⟩ : ∃ n : Nat, n = min text.size 4096 := ⟨_, rfl⟩
  have hmin : (min (text.size : Int) 4096).toNat = n4 := by omega
  have hsz : (text.extract 0 n4).size = n4 := by rw [ByteArray.size_extract]; omega
  have hn2 : n4 ≤ 4096 := by omega
  clear hn
  go_enter Try.func5, Try.ntmps5
  go_wp2_with fail
  refine (lives_any w).mono ?_
  rintro e w1 ⟨rfl, F1⟩
  have G1 := Lib.hid F1
  clear F1
  go_wp2_with fail
  clear hmin
  generalize text.extract 0 n4 = s at *
  subst hsz
  have hs : s.size ≤ 4096 := hn2
  clear hn2
  obtain ⟨t, ht'⟩ : ∃ t, t = bytesOf s := ⟨_, rfl⟩
  have htl : t.length = s.size := by rw [ht', bytesOf_length]
  obtain ⟨n, hn⟩ : ∃ n, n = min part.toNat t.length := ⟨_, rfl⟩
  obtain ⟨g, hg⟩ : ∃ g, g = min more.toNat 4096 := ⟨_, rfl⟩
  have en : min (max part 0) (s.size : Int) = (n : Int) := by omega
  simp only [en]
  have hnt : n ≤ t.length := by omega
  have hg4 : g ≤ 4096 := by omega
  obtain ⟨d, hd⟩ : ∃ d, n + d = 4096 := ⟨4096 - n, by omega⟩
  obtain ⟨d2, hd2⟩ : ∃ d, g + d = 4096 := ⟨4096 - g, by omega⟩
  have SL : Hid ((s.size : Int) = (t.length : Int)) := Lib.hid (by omega)
  have HT := Lib.hid ht'
  have B1 := Lib.hid (Cu.b1 (part := part) (more := more) (t := t) (by omega))
  have B4 := Lib.hid (Cu.b4 (part := part) (more := more) (t := t) (by omega))
  have B5 := Lib.hid (Cu.b5 (part := part) (more := more) (t := t) n d hd)
  have B6 := Lib.hid (Cu.b6 (part := part) (more := more) (t := t) n hn)
  have BS := Lib.hid (Cu.S_take (part := part) (more := more) (t := t) n hn)
  have C1 := Lib.hid (Cu.c1 (t := t) (by omega))
  have C3 := Lib.hid (Cu.c3 (more := more) (t := t) g hg)
  have C4 := Lib.hid (Cu.c4 (more := more) (t := t) g d2 hd2)
  have CT := Lib.hid (Cu.T_take (more := more) (t := t) g (min g t.length) hg rfl (by omega))
  have HN := Lib.hid hn
  have HG : Hid (min (max more 0) 4096 = (g : Int)) := Lib.hid (by omega)
  have H4 : t.length ≤ 4096 := by omega
  have hd' : d ≤ 4096 := by omega
  have hd2' : d2 ≤ 4096 := by omega
  have HD := Lib.hid hd
  have HD2 := Lib.hid hd2
  have wf1 := Lib.hid (wf_int hp1 hp2)
  have wf2 := Lib.hid (wf_int hm1 hm2)
  have wf0 : (ki 0).wf = true := by decide
  have wf3 : (ki 1).wf = true := by decide
  have HW0 := Lib.hid wf0
  have HW3 := Lib.hid wf3
  clear en ht' htl hn hg hd hd2 wf0 wf3
  refine (new_any _).mono ?_
  rintro e w2 ⟨rfl, M2, F2⟩
  obtain ⟨b, hb⟩ : ∃ b, b = w1.heap.size := ⟨_, rfl⟩
  have hb0 : w.heap.size ≤ b := by have := G1.out.size; omega
  rw [← hb] at M2 ⊢
  have G2 := Lib.hid (fr_nil G1.out F2)
  have N2 := Lib.hid M2
  clear F2 M2 hb G1
  go_wp2_with fail
  refine (arm_new N2.out [(1, more), (0, part)] (by simp) (fun x hx => ?_) (m' := Cu.a1 part more) rfl).mono ?_
  · simp only [List.mem_cons, List.not_mem_nil, or_false] at hx
    rcases hx with rfl | rfl
    · exact ⟨HW3.out, wf2.out⟩
    · exact ⟨HW0.out, wf1.out⟩
  rintro e w3 ⟨rfl, M3, F3, z3⟩
  have G3 := Lib.hid (fr_one G2.out F3 hb0)
  have hr0 : w.heap.size ≤ w2.heap.size + 1 := by have := G2.out.size; omega
  obtain ⟨r, hr⟩ : ∃ r, r = w2.heap.size + 1 := ⟨_, rfl⟩
  rw [← hr] at M3 hr0
  have N3 := Lib.hid M3
  clear M3 F3 G2 N2 hr z3
  go_wp2_with fail
  refine (burn_new N3.out (by show (0 : Nat) < _; decide) 1 0 (by decide) (by decide) (by decide) (by decide) [s] (by simp) (t := t) (by rw [HT.out]; exact jn_one s) (by omega) B1.out.1 B1.out.2).mono ?_
  rintro e w4 ⟨rfl, M4, F4, z4⟩
  have G4 := Lib.hid (fr_foot G3.out F4 hb0 fun k hk => by injection hk with hk; omega)
  have N4 := Lib.hid M4
  clear M4 F4 G3 N3 z4 B1
  go_wp2_with fail
  refine (burn_new N4.out (by show (1 : Nat) < _; decide) 1 0 (by decide) (by decide) (by decide) (by decide) [s] (by simp) (t := t) (by rw [HT.out]; exact jn_one s) (by omega) Cu.b2.1 Cu.b2.2).mono ?_
  rintro e w5 ⟨rfl, M5, F5, z5⟩
  have G5 := Lib.hid (fr_foot G4.out F5 hb0 fun k hk => by injection hk with hk; omega)
  have N5 := Lib.hid M5
  clear M5 F5 G4 N4 z5
  go_wp2_with fail
  refine (erase_at N5.out (by show (1 : Nat) < _; decide) (fun _ => by show (0 : Nat) < _; decide) 2 (by decide) (by decide) Cu.b3.1 Cu.b3.2).mono ?_
  rintro e w6 ⟨rfl, M6, F6⟩
  have G6 := Lib.hid (fr_foot G5.out F6 hb0 fun k hk => by injection hk with hk; omega)
  have N6 := Lib.hid M6
  clear M6 F6 G5 N5
  go_wp2_with fail
  refine (acts_at N6.out (k := 1) rfl).mono ?_
  rintro e w' ⟨rfl, rfl⟩
  go_wp2_with fail
  refine (again_any N6.out).mono ?_
  rintro e w7 ⟨rfl, M7, F7⟩
  obtain ⟨b2, hb2⟩ : ∃ b, b = w6.heap.size := ⟨_, rfl⟩
  rw [← hb2] at M7 ⊢
  have G7 := Lib.hid (fr_nil G6.out F7)
  have N7 := Lib.hid M7
  clear M7 F7 G6 N6 hb2
  go_wp2_with fail
  rw [SL.out]
  refine (read_at N7.out 1 0 t.length (by decide) (by decide) (by decide) (by decide) (by omega) (by omega) B4.out.1 B4.out.2).mono ?_
  rintro e w' ⟨rfl, rfl⟩
  have ed : (4096 : Int) - (n : Int) = (d : Int) := by have := HD.out; omega
  go_wp2_with fail
  refine (read_at N7.out 1 n d (by decide) (by decide) (by omega) (by omega) (by omega) (by omega) B5.out.1 B5.out.2).mono ?_
  rintro e w' ⟨rfl, rfl⟩
  have hXs : (⟨(Cu.S part more t).toArray⟩ : ByteArray).size = t.length := Cu.S_length
  have hXe : (⟨(Cu.S part more t).toArray⟩ : ByteArray).extract 0 n = s.extract 0 n := bytesOf_inj (by
    rw [bytesOf_extract, bytesOf_extract, bytesOf_mk, ← HT.out, BS.out])
  have hYs : (⟨(cutP ((Cu.a2 part more t).pg 1) n d).toArray⟩ : ByteArray).size = d := cutP_length _ _ _
  generalize (⟨(Cu.S part more t).toArray⟩ : ByteArray) = X at *
  generalize (⟨(cutP ((Cu.a2 part more t).pg 1) n d).toArray⟩ : ByteArray) = Y at *
  obtain ⟨kb, hkb⟩ : ∃ kb, (Cu.a2 part more t).again.bare 1 = kb := ⟨_, rfl⟩
  have hkn : kb ≤ n := by rw [← hkb]; exact B6.out
  have HKB := Lib.hid hkb
  have hnX : n ≤ X.size := by omega
  have hns : n ≤ s.size := by have := SL.out; omega
  have hnX' : (n : Int) ≤ (X.size : Int) := by omega
  have hns' : (n : Int) ≤ (s.size : Int) := by omega
  have q1 : ((X.extract 0 n).toList != (s.extract 0 n).toList) = false := by rw [hXe]; simp
  have q1' : ((X.extract 0 n).toList == (s.extract 0 n).toList) = true := by rw [hXe]; simp
  have q2 : ((d : Int) != (d : Int)) = false := by simp
  have q3 : decide (n < kb) = false := by simp; omega
  have KB := fun j => same_flip (bare_at (N7.out.none ((Fr.refl _ w7).drewN j)) 1 (by decide) (by decide) HKB.out)
  clear hXs hXe hkb B4 B5 B6 BS
  go_wp2_with fail
  go_quiet ((go_at_call 23; exact Calls.quiet_of_same (KB _)))
  have G8 := Lib.hid (G7.out.drewN nq)
  clear KB q1 q1' q2 q3 hnX hns hnX' hns' hYs hkn HKB N7 G7 ed
  generalize w7.drewN nq = w8 at *
  go_wp2_with fail
  refine (new_any _).mono ?_
  rintro e w9 ⟨rfl, M9, F9⟩
  obtain ⟨c, hc⟩ : ∃ c, c = w8.heap.size := ⟨_, rfl⟩
  have hc0 : w.heap.size ≤ c := by have := G8.out.size; omega
  rw [← hc] at M9 ⊢
  have G9 := Lib.hid (fr_nil G8.out F9)
  have N9 := Lib.hid M9
  clear F9 M9 hc G8
  go_wp2_with fail
  refine (burn_new N9.out (by decide) 1 0 (by decide) (by decide) (by decide) (by decide) [s] (by simp) (t := t) (by rw [HT.out]; exact jn_one s) (by omega) C1.out.1 C1.out.2).mono ?_
  rintro e w10 ⟨rfl, M10, F10, z10⟩
  have G10 := Lib.hid (fr_foot G9.out F10 hc0 fun k hk => by cases hk)
  have N10 := Lib.hid M10
  clear M10 F10 G9 N9 z10 C1
  go_wp2_with fail
  refine (arm_new N10.out [(0, more)] (by simp) (fun x hx => ?_) (m' := Cu.x2 more t) rfl).mono ?_
  · simp only [List.mem_cons, List.not_mem_nil, or_false] at hx
    subst hx
    exact ⟨HW0.out, wf2.out⟩
  rintro e w11 ⟨rfl, M11, F11, z11⟩
  have G11 := Lib.hid (fr_one G10.out F11 hc0)
  have hr1 : w.heap.size ≤ w10.heap.size + 1 := by have := G10.out.size; omega
  obtain ⟨r1, hr⟩ : ∃ r, r = w10.heap.size + 1 := ⟨_, rfl⟩
  rw [← hr] at M11 hr1
  have N11 := Lib.hid M11
  clear M11 F11 G10 N10 hr z11
  go_wp2_with fail
  refine (erase_at N11.out (by show (1 : Nat) < _; decide) (fun _ => by show (0 : Nat) < _; decide) 1 (by decide) (by decide) Cu.c2.1 Cu.c2.2).mono ?_
  rintro e w12 ⟨rfl, M12, F12⟩
  have G12 := Lib.hid (fr_foot G11.out F12 hc0 fun k hk => by injection hk with hk; omega)
  have N12 := Lib.hid M12
  clear M12 F12 G11 N11
  go_wp2_with fail
  refine (again_any N12.out).mono ?_
  rintro e w13 ⟨rfl, M13, F13⟩
  obtain ⟨x, hx⟩ : ∃ b, b = w12.heap.size := ⟨_, rfl⟩
  rw [← hx] at M13 ⊢
  have G13 := Lib.hid (fr_nil G12.out F13)
  have N13 := Lib.hid M13
  clear M13 F13 G12 N12 hx
  go_wp2_with fail
  simp only [HG.out]
  refine (read_at N13.out 1 0 g (by decide) (by decide) (by decide) (by decide) (by omega) (by omega) C3.out.1 C3.out.2).mono ?_
  rintro e w' ⟨rfl, rfl⟩
  have hZs : (⟨(List.replicate g 255).toArray⟩ : ByteArray).size = g := by show (List.replicate g (255 : UInt8)).toArray.size = g; simp
  have hZe : ∀ k (h : k < (⟨(List.replicate g 255).toArray⟩ : ByteArray).size), (⟨(List.replicate g 255).toArray⟩ : ByteArray)[k] = 255 := fun k h => by
    show (List.replicate g (255 : UInt8)).toArray[k] = 255
    simp
  generalize (⟨(List.replicate g 255).toArray⟩ : ByteArray) = Z at *
  have HZs := Lib.hid hZs
  have HZe := Lib.hid hZe
  clear hZs hZe
  have ed : (4096 : Int) - (g : Int) = (d2 : Int) := by have := HD2.out; omega
  go_wp2_with fail
  refine (read_at N13.out 1 g d2 (by decide) (by decide) (by omega) (by omega) (by omega) (by omega) C4.out.1 C4.out.2).mono ?_
  rintro e w' ⟨rfl, rfl⟩
  obtain ⟨q, hq⟩ : ∃ q, q = min g t.length := ⟨_, rfl⟩
  obtain ⟨u, hu⟩ : ∃ u, u = t.length - q := ⟨_, rfl⟩
  have hUs : (⟨(Cu.T more t g).toArray⟩ : ByteArray).size = 4096 - g := Cu.T_length g
  have hUe : (⟨(Cu.T more t g).toArray⟩ : ByteArray).extract 0 u = s.extract q s.size := bytesOf_inj (by
    rw [bytesOf_extract, bytesOf_extract, bytesOf_mk, ← HT.out, hu, hq, CT.out, List.drop_zero, List.take_of_length_le (by have := SL.out; omega)])
  generalize (⟨(Cu.T more t g).toArray⟩ : ByteArray) = U at *
  have sl := SL.out
  have eq1 : min (g : Int) (s.size : Int) = (q : Int) := by omega
  have eq2 : (s.size : Int) - (q : Int) = (u : Int) := by omega
  have huU : u ≤ U.size := by omega
  have hqs : q ≤ s.size := by omega
  have qe : ((U.extract 0 u).toList == (s.extract q s.size).toList) = true := by rw [hUe]; simp
  have E1 := Lib.hid eq1
  have E2 := Lib.hid eq2
  have EQ := Lib.hid qe
  clear eq1 eq2 qe hUe hUs hq hu sl
  go_wp2_with fail
  refine (worn_at N13.out 1 (by decide) (by decide) (k := 1) rfl).mono ?_
  rintro e w' ⟨rfl, rfl⟩
  clear ed
  go_wp2_with fail
  have zs := HZs.out
  go_loop [16] (fun i => ∃ k : Nat, k ≤ g ∧ i = .int .i64 k) (fun i => g - (intOf i).toNat)
  case atStart => exact ⟨0, Nat.zero_le _, rfl⟩
  case round =>
    obtain ⟨k, hk, rfl⟩ := hrel
    by_cases hlt : k < g
    · have hkz : k < Z.size := by omega
      have hz := HZe.out k hkz
      have ht : (((Z[k].toNat : Nat) : Int) != 255) = false := by rw [hz]; rfl
      clear hz
      go_wp2_with fail
      go_round
      case rel => exact ⟨k + 1, by omega, by go_num⟩
      case measure => simp [intOf]; omega
    · have hkg : k = g := by omega
      subst hkg
      have eq1 := E1.out
      have eq2 := E2.out
      have qe := EQ.out
      have huU' : (u : Int) ≤ (U.size : Int) := by omega
      have hqs' : (q : Int) ≤ (s.size : Int) := by omega
      clear hlt
      go_wp2_with fail
      go_quiet (fail)
      go_wp2_with fail
      go_ret
      exact ⟨rfl, (G13.out.drewN nq).toBelow⟩
end Go.Proofs.Ytafhkhkpknipmaa

/- Contracts and plain mathematics of earlier stages: Rtmake, Rtread, Rrecv. -/
import Derived.Test.YtfmhfngilimhjaaKl
import Derived.Test.YtfmhfngilimhjaaKr
import Derived.Test.YtfmhfngilimhjaaKt
import Derived.Deep.RegionHeld3
import Derived.Laws.ResultCell
import Derived.Test.YtfmhfngilimhjaaKq
import Derived.Test.YtfmhfngilimhjaaKa
namespace Go.Proofs.Ytfmhfngilimhjaa
open Go.RowKit Li

set_option maxHeartbeats 1000000 in
theorem rmake_any (p n s : Int) (x : ByteArray) (w : World) :
    Calls Try.prog 26 #[.int .i64 p, .int .i64 n, .int .i64 s, .string x] w fun e w' => e = .returned (.tuple #[.string ⟨(makeL p n s (bytesOf x)).1.toArray⟩, .int .i64 (makeL p n s (bytesOf x)).2]) ∧ Fr (fun _ => False) w w' := by
  have K1 := Pa.mnew_calls 7 w (by decide)
  rw [show max (7 : Int) 0 = 7 from rfl] at K1
  obtain ⟨b, hb⟩ : ∃ b, b = w.heap.size := ⟨_, rfl⟩
  rw [← hb] at K1
  have HB : Hid (w.heap.size ≤ b) := Lib.hid (by omega)
  clear hb
  have HN := Lib.hid (nums_head p n s)
  have hxl := bytesOf_length x
  have HM1 : Hid (fitsB p n s = true → 1000 < (bytesOf x).length → makeL p n s (bytesOf x) = ([], 2)) := Lib.hid fun h k => by unfold makeL; rw [if_pos h, if_pos k]
  have HM2 : Hid (fitsB p n s = true → ¬ 1000 < (bytesOf x).length → makeL p n s (bytesOf x) = (Crc.frame (headB p n s ++ bytesOf x), 0)) := Lib.hid fun h k => by unfold makeL; rw [if_pos h, if_neg k]
  have HM3 : Hid (¬ fitsB p n s = true → makeL p n s (bytesOf x) = ([], 32)) := Lib.hid fun h => by unfold makeL; rw [if_neg h]
  go_enter Try.func26, Try.ntmps26
  go_wp2_with fail
  refine K1.mono ?_
  rintro e w1 ⟨rfl, W1, f1⟩
  have KB := Pa.mnum1 W1 p (.inl (by show (7 : Int) ≤ _; decide))
  have HF1 := Lib.hid f1
  clear W1 f1 K1
  go_wp2_with fail
  refine KB.mono ?_
  rintro e w2 ⟨rfl, F2, W2, M2⟩
  have f2 := HF1.out.trans M2.1 fun j hj h => by
    rcases h with rfl | h
    · have := HB.out; omega
    · cases h
  have hF2 : Hid (∀ k, F2 = some k → w.heap.size ≤ k) := Lib.hid fun k hk => by
    rcases M2.2 with e | ⟨g, e, hg⟩
    · rw [e] at hk; cases hk
    · rw [e] at hk; injection hk with hk; have := HF1.out.size; omega
  have KW := Pa.mnum2 W2 n (.inl (by rw [Pk.S.num_L]; show (7 : Int) ≤ _; decide))
  have HF2 := Lib.hid f2
  clear W2 f2 M2 KB HF1
  go_wp2_with fail
  refine KW.mono ?_
  rintro e w3 ⟨rfl, F3, W3, M3⟩
  have f3 := HF2.out.trans M3.1 fun j hj h => by
    rcases h with rfl | h
    · have := HB.out; omega
    · have := hF2.out j h; omega
  have hF3 : Hid (∀ k, F3 = some k → w.heap.size ≤ k) := Lib.hid fun k hk => by
    rcases M3.2 with e | ⟨g, e, hg⟩
    · rw [e] at hk; exact hF2.out k hk
    · rw [e] at hk; injection hk with hk; have := HF2.out.size; omega
  have KL := Pa.mnum4 W3 s (.inl (by rw [Pk.S.num_L, Pk.S.num_L]; show (7 : Int) ≤ _; decide))
  have HF3 := Lib.hid f3
  clear W3 f3 M3 KW HF2 hF2
  go_wp2_with fail
  refine KL.mono ?_
  rintro e w4 ⟨rfl, F4, W4, M4⟩
  have f4 := HF3.out.trans M4.1 fun j hj h => by
    rcases h with rfl | h
    · have := HB.out; omega
    · have := hF3.out j h; omega
  have KD := Pa.mdone_any W4
  rw [HN.out] at KD
  have HF4 := Lib.hid f4
  clear W4 f4 M4 KL HF3 hF3
  by_cases hf : fitsB p n s = true
  · rw [if_pos hf] at KD
    by_cases hx : 1000 < (bytesOf x).length
    · have HE := Lib.hid (HM1.out hf hx)
      have hx' : 1000 < x.size := by omega
      clear hx hxl hf HM1 HM2 HM3
      go_wp2_with fail
      refine KD.mono ?_
      rintro e w5 ⟨rfl, n5, rfl⟩
      have HF5 := Lib.hid (HF4.out.drewN n5)
      clear KD
      generalize w4.drewN n5 = W5 at *
      go_wp2_with fail
      go_ret2
      rw [HE.out]
      exact ⟨rfl, HF5.out⟩
    · have HE := Lib.hid (HM2.out hf hx)
      have hx' : x.size ≤ 1000 := by omega
      have hz : (⟨(headB p n s).toArray⟩ : ByteArray).size = 7 := head_length p n s
      have hbo : bytesOf ⟨(headB p n s).toArray⟩ = headB p n s := rfl
      clear hx hxl hf HM1 HM2 HM3
      generalize (⟨(headB p n s).toArray⟩ : ByteArray) = hd at *
      go_wp2_with fail
      refine KD.mono ?_
      rintro e w5 ⟨rfl, n5, rfl⟩
      have HF5 := Lib.hid (HF4.out.drewN n5)
      clear KD
      generalize w4.drewN n5 = W5 at *
      have hj : bytesOf (hd ++ x) = headB p n s ++ bytesOf x := by rw [bytesOf_append, hbo]
      have KS := Se.refseal_any (hd ++ x) W5
      have hfr : Se.frameL (bytesOf (hd ++ x)) = (Crc.frame (headB p n s ++ bytesOf x), 0) := by
        unfold Se.frameL
        rw [if_neg (by rw [hj, List.length_append, head_length, bytesOf_length]; omega), hj]
      rw [hfr] at KS
      clear hfr hj HF4
      go_wp2_with fail
      refine KS.mono ?_
      rintro e w6 ⟨rfl, F6⟩
      have HF7 := Lib.hid (HF5.out.trans F6 fun _ _ h => h)
      clear F6 KS HF5
      go_wp2_with fail
      go_ret2
      rw [HE.out]
      exact ⟨rfl, HF7.out⟩
  · rw [if_neg hf] at KD
    have HE := Lib.hid (HM3.out hf)
    clear hf HM1 HM2 HM3
    go_wp2_with fail
    refine KD.mono ?_
    rintro e w5 ⟨rfl, n5, rfl⟩
    have HF5 := Lib.hid (HF4.out.drewN n5)
    clear KD
    generalize w4.drewN n5 = W5 at *
    go_wp2_with fail
    go_ret2
    rw [HE.out]
    exact ⟨rfl, HF5.out⟩
end Go.Proofs.Ytfmhfngilimhjaa

namespace Go.Proofs.Ytfmhfngilimhjaa
open Go.RowKit Li

/-- what a telegram says, as a struct of the document's own -/
def saidV (t : T) : Value := .agg #[.int .i64 t.p, .int .i64 t.n, .int .i64 t.s, .string ⟨t.x.toArray⟩]
def saidR (t : T) : Array Value := #[.int .i64 t.p, .int .i64 t.n, .int .i64 t.s, .string ⟨t.x.toArray⟩]

theorem said_end {fn : Func} {p u : Tmp} (h : fn.results = #[.cell p 121, .tmp u]) (tmps : Array Value) (w : World) (g : Nat) (t : T) (hp : tmps.getD p undef = .pointer (some ⟨g, 0, none⟩)) (hI : Is w g 121 (saidR t)) :
    (results fn tmps).run Try.prog w = .ok (.tuple #[saidV t, tmps.getD u undef]) w := by
  have k := run_loadVar_row (P := Try.prog) w g 121 121 (saidR t) (0, 0) _ hI Try.underlying121 rfl (by kernel_rfl)
  rw [results_cell_tmp h, hp]
  simp [asAddr, k, Result.andThen, saidV, saidR]
/-- a struct of these four cells, stored cell by cell -/
theorem said_set {w : World} {g : Nat} {t0 : T} (h : Is w g 121 (saidR t0)) (t : T) :
    Is ((((w.setCell ⟨g, 0, none⟩ (.int .i64 t.p)).setCell ⟨g, 1, none⟩ (.int .i64 t.n)).setCell ⟨g, 2, none⟩ (.int .i64 t.s)).setCell ⟨g, 3, none⟩ (.string ⟨t.x.toArray⟩)) g 121 (saidR t) := by
  have := (((h.set 0 (.int .i64 t.p)).set 1 (.int .i64 t.n)).set 2 (.int .i64 t.s)).set 3 (.string ⟨t.x.toArray⟩)
  simpa [saidR] using this
theorem said_fr {w : World} {g : Nat} (S : Nat → Prop) (hs : S g) (a b c d : Value) : Fr S w ((((w.setCell ⟨g, 0, none⟩ a).setCell ⟨g, 1, none⟩ b).setCell ⟨g, 2, none⟩ c).setCell ⟨g, 3, none⟩ d) :=
  ((((Fr.refl S w).setCell (p := ⟨g, 0, none⟩) (.inl hs) _).setCell (p := ⟨g, 1, none⟩) (.inl hs) _).setCell (p := ⟨g, 2, none⟩) (.inl hs) _).setCell (p := ⟨g, 3, none⟩) (.inl hs) _

set_option maxHeartbeats 2000000 in
theorem rread_any (s : ByteArray) (hs : s.size ≤ 140737488355328) (w : World) :
    Calls Try.prog 56 #[.string s] w fun e w' => e = .returned (.tuple #[saidV (readL (bytesOf s)), .int .i64 (readL (bytesOf s)).e]) ∧ Fr (fun _ => False) w w' := by
  have K := fun W => Se.refopen_any s hs W
  unfold readL
  generalize Crc.openL (bytesOf s) = o at *
  obtain ⟨b, e0⟩ := o
  simp only at K
  have HL := Lib.hid ((Fr.refl (fun _ => False) w).alloc (.cells #[.int .i64 0, .int .i64 0, .int .i64 0, .string ⟨#[]⟩] 121))
  have iL : Is (w.alloc (.cells #[.int .i64 0, .int .i64 0, .int .i64 0, .string ⟨#[]⟩] 121)) w.heap.size 121 #[.int .i64 0, .int .i64 0, .int .i64 0, .string ⟨#[]⟩] := Is.new w _ _
  obtain ⟨g, hg⟩ : ∃ g, g = w.heap.size := ⟨_, rfl⟩
  rw [← hg] at iL
  have HG : Hid (w.heap.size ≤ g) := Lib.hid (by omega)
  unfold readB
  simp only
  by_cases he : e0 ≠ 0
  · rw [if_pos he]
    have hb : (e0 != 0) = true := by simpa using he
    clear he
    go_enter Try.func56, Try.ntmps56
    go_wp2_with fail
    rw [← hg]
    clear hg
    generalize w.alloc (.cells #[.int .i64 0, .int .i64 0, .int .i64 0, .string ⟨#[]⟩] 121) = w1 at *
    refine (K w1).mono ?_
    rintro e w2 ⟨rfl, f2⟩
    have i2 : Is w2 g 121 (saidR ⟨0, 0, 0, [], 0⟩) := iL.fr f2 id
    have HF := Lib.hid (HL.out.trans f2 fun _ _ h => h)
    clear f2 K HL iL
    have c0 : w2.cell? ⟨g, 0, none⟩ = some (.int .i64 0) := i2.cell 0
    have c1 : w2.cell? ⟨g, 1, none⟩ = some (.int .i64 0) := i2.cell 1
    have c2 : w2.cell? ⟨g, 2, none⟩ = some (.int .i64 0) := i2.cell 2
    have c3 : w2.cell? ⟨g, 3, none⟩ = some (.string ⟨#[]⟩) := i2.cell 3
    have z0 : w2.frozen? ⟨g, 0, none⟩ = false := i2.frozen 0
    have z1 : w2.frozen? ⟨g, 1, none⟩ = false := i2.frozen 1
    have z2 : w2.frozen? ⟨g, 2, none⟩ = false := i2.frozen 2
    have z3 : w2.frozen? ⟨g, 3, none⟩ = false := i2.frozen 3
    go_wp2_with fail
    have i3 := said_set i2 ⟨0, 0, 0, [], e0⟩
    refine bodyPost_ret (said_end rfl _ _ g _ rfl i3) rfl ?_
    exact ⟨rfl, HF.out.trans (said_fr (fun k => k = g) rfl _ _ _ _) fun j hj h => by have := HG.out; omega⟩
  · rw [if_neg he]
    have he' : e0 = 0 := Decidable.not_not.1 he
    subst he'
    clear he
    have hz : (⟨b.toArray⟩ : ByteArray).size = b.length := rfl
    by_cases h7 : b.length < 7
    · rw [if_pos h7]
      rw [← hz] at h7
      clear hz
      generalize (⟨b.toArray⟩ : ByteArray) = x at *
      go_enter Try.func56, Try.ntmps56
      go_wp2_with fail
      rw [← hg]
      clear hg
      generalize w.alloc (.cells #[.int .i64 0, .int .i64 0, .int .i64 0, .string ⟨#[]⟩] 121) = w1 at *
      refine (K w1).mono ?_
      rintro e w2 ⟨rfl, f2⟩
      have i2 : Is w2 g 121 (saidR ⟨0, 0, 0, [], 0⟩) := iL.fr f2 id
      have HF := Lib.hid (HL.out.trans f2 fun _ _ h => h)
      clear f2 K HL iL
      have c0 : w2.cell? ⟨g, 0, none⟩ = some (.int .i64 0) := i2.cell 0
      have c1 : w2.cell? ⟨g, 1, none⟩ = some (.int .i64 0) := i2.cell 1
      have c2 : w2.cell? ⟨g, 2, none⟩ = some (.int .i64 0) := i2.cell 2
      have c3 : w2.cell? ⟨g, 3, none⟩ = some (.string ⟨#[]⟩) := i2.cell 3
      have z0 : w2.frozen? ⟨g, 0, none⟩ = false := i2.frozen 0
      have z1 : w2.frozen? ⟨g, 1, none⟩ = false := i2.frozen 1
      have z2 : w2.frozen? ⟨g, 2, none⟩ = false := i2.frozen 2
      have z3 : w2.frozen? ⟨g, 3, none⟩ = false := i2.frozen 3
      go_wp2_with fail
      have i3 := said_set i2 ⟨0, 0, 0, [], 3⟩
      refine bodyPost_ret (said_end rfl _ _ g _ rfl i3) rfl ?_
      exact ⟨rfl, HF.out.trans (said_fr (fun k => k = g) rfl _ _ _ _) fun j hj h => by have := HG.out; omega⟩
    · rw [if_neg h7]
      by_cases h8 : 1007 < b.length
      · rw [if_pos h8]
        rw [← hz] at h7 h8
        clear hz
        generalize (⟨b.toArray⟩ : ByteArray) = x at *
        go_enter Try.func56, Try.ntmps56
        go_wp2_with fail
        rw [← hg]
        clear hg
        generalize w.alloc (.cells #[.int .i64 0, .int .i64 0, .int .i64 0, .string ⟨#[]⟩] 121) = w1 at *
        refine (K w1).mono ?_
        rintro e w2 ⟨rfl, f2⟩
        have i2 : Is w2 g 121 (saidR ⟨0, 0, 0, [], 0⟩) := iL.fr f2 id
        have HF := Lib.hid (HL.out.trans f2 fun _ _ h => h)
        clear f2 K HL iL
        have c0 : w2.cell? ⟨g, 0, none⟩ = some (.int .i64 0) := i2.cell 0
        have c1 : w2.cell? ⟨g, 1, none⟩ = some (.int .i64 0) := i2.cell 1
        have c2 : w2.cell? ⟨g, 2, none⟩ = some (.int .i64 0) := i2.cell 2
        have c3 : w2.cell? ⟨g, 3, none⟩ = some (.string ⟨#[]⟩) := i2.cell 3
        have z0 : w2.frozen? ⟨g, 0, none⟩ = false := i2.frozen 0
        have z1 : w2.frozen? ⟨g, 1, none⟩ = false := i2.frozen 1
        have z2 : w2.frozen? ⟨g, 2, none⟩ = false := i2.frozen 2
        have z3 : w2.frozen? ⟨g, 3, none⟩ = false := i2.frozen 3
        go_wp2_with fail
        have i3 := said_set i2 ⟨0, 0, 0, [], 2⟩
        refine bodyPost_ret (said_end rfl _ _ g _ rfl i3) rfl ?_
        exact ⟨rfl, HF.out.trans (said_fr (fun k => k = g) rfl _ _ _ _) fun j hj h => by have := HG.out; omega⟩
      · rw [if_neg h8]
        obtain ⟨x, hx⟩ : ∃ x : ByteArray, x = ⟨b.toArray⟩ := ⟨_, rfl⟩
        have hbx : bytesOf x = b := by rw [hx]; rfl
        rw [← hx] at K hz
        have x7 : 7 ≤ x.size := by omega
        have z1 : (x.extract 1 x.size).size = x.size - 1 := by rw [ByteArray.size_extract]; omega
        have z2 : ((x.extract 1 x.size).extract 2 (x.extract 1 x.size).size).size = x.size - 3 := by rw [ByteArray.size_extract, z1]; omega
        have HV1 : Hid (Pa.val (bytesOf (x.extract 0 1)) = Pa.val (b.take 1)) := Lib.hid (by rw [bytes_head, hbx])
        have HV2 : Hid (Pa.val (bytesOf ((x.extract 1 x.size).extract 0 2)) = Pa.val ((b.drop 1).take 2)) := Lib.hid (by rw [bytes_head, bytes_tail, hbx])
        have HV4 : Hid (Pa.val (bytesOf (((x.extract 1 x.size).extract 2 (x.extract 1 x.size).size).extract 0 4)) = Pa.val ((b.drop 3).take 4)) := Lib.hid (by rw [bytes_head, bytes_tail, bytes_tail, hbx, List.drop_drop])
        have HX : Hid (x.extract 7 x.size = ⟨(b.drop 7).toArray⟩) := Lib.hid (bytesOf_inj (by rw [bytes_tail, hbx]; rfl))
        have hsl : ∀ W, (Instr.slice 9 (.string x) (some (.int .i64 7)) none none).run Try.prog W = .ok (.string (x.extract 7 x.size)) W := fun W => by
          have k := run_slice_string_l (P := Try.prog) (w := W) 9 x Try.underlying9 .i64 7 (by omega) (by omega)
          exact k
        have HSL := Lib.hid hsl
        clear hsl
        have Z1 := Lib.hid z1
        have Z2 := Lib.hid z2
        have q1 : decide ((x.size : Int) < 7) = false := decide_eq_false (by omega)
        have q2 : decide ((1007 : Int) < x.size) = false := decide_eq_false (by omega)
        have X7 := Lib.hid x7
        clear z1 z2 x7
        generalize x.extract 7 x.size = y at *
        clear hz hbx hx h7 h8
        go_enter Try.func56, Try.ntmps56
        go_wp2_with fail
        rw [← hg]
        clear hg
        generalize w.alloc (.cells #[.int .i64 0, .int .i64 0, .int .i64 0, .string ⟨#[]⟩] 121) = w1 at *
        refine (K w1).mono ?_
        rintro e w2 ⟨rfl, f2⟩
        have i2 : Is w2 g 121 (saidR ⟨0, 0, 0, [], 0⟩) := iL.fr f2 id
        have HF := Lib.hid (HL.out.trans f2 fun _ _ h => h)
        clear f2 K HL iL
        have iR : Is (w2.alloc (.cells #[.string x, .bool false] 150)) w2.heap.size 150 #[.string x, .bool false] := Is.new w2 _ _
        obtain ⟨rb, hrb⟩ : ∃ rb, rb = w2.heap.size := ⟨_, rfl⟩
        rw [← hrb] at iR
        have i3 := i2.alloc (.cells #[.string x, .bool false] 150)
        have HR : Hid (w.heap.size ≤ rb ∧ g < rb) := Lib.hid ⟨by have := HF.out.size; omega, by have := i2.lt; omega⟩
        have HF3 := Lib.hid (HF.out.alloc (.cells #[.string x, .bool false] 150))
        clear HF i2
        go_wp2_with fail
        rw [← hrb]
        clear hrb
        generalize w2.alloc (.cells #[.string x, .bool false] 150) = w3 at *
        have z1 := Z1.out
        have z2 := Z2.out
        have x7 := X7.out
        have K1 : ∀ W, Pa.Rm W rb x false → _ := fun W h => Pa.mrnum_any (r := ⟨x, false⟩) h 1 (by omega)
        rw [rs_tk (by omega), rs_aft (by omega)] at K1
        simp only at K1
        have K2 : ∀ W, Pa.Rm W rb (x.extract 1 x.size) false → _ := fun W h => Pa.mrnum_any (r := ⟨x.extract 1 x.size, false⟩) h 2 (by omega)
        rw [rs_tk (by omega), rs_aft (by omega)] at K2
        simp only at K2
        have K4 : ∀ W, Pa.Rm W rb ((x.extract 1 x.size).extract 2 (x.extract 1 x.size).size) false → _ := fun W h => Pa.mrnum_any (r := ⟨(x.extract 1 x.size).extract 2 (x.extract 1 x.size).size, false⟩) h 4 (by omega)
        rw [rs_tk (by omega), rs_aft (by omega)] at K4
        simp only at K4
        clear z1 z2 x7 Z1 Z2 X7 q1 q2
        generalize Pa.val (bytesOf (((x.extract 1 x.size).extract 2 (x.extract 1 x.size).size).extract 0 4)) = v4 at *
        generalize Pa.val (bytesOf ((x.extract 1 x.size).extract 0 2)) = v2 at *
        generalize Pa.val (bytesOf (x.extract 0 1)) = v1 at *
        generalize (x.extract 1 x.size).extract 2 (x.extract 1 x.size).size = y2 at *
        generalize x.extract 1 x.size = y1 at *
        refine wp_region_held_drew (S := fun Wx => True) (by kernel_rfl) trivial (fun hHeld => ?_)
        refine wpAnyH_take (i := 0) (v := ?_) rfl (by kernel_rfl) (by kernel_rfl) (by kernel_rfl) (fun _ _ _ h => h) (Or.inl ⟨by rfl, ?_⟩) (by assumption) ?_
        rotate_left
        · intro Wx hSw
          go_simp
          try with_reducible rfl
        try simp only [Act.put]
        refine wpAnyH_take (i := 2) (v := ?_) rfl (by kernel_rfl) (by kernel_rfl) (by kernel_rfl) (fun _ _ _ h => h) (Or.inl ⟨by rfl, ?_⟩) (by assumption) ?_
        rotate_left
        · intro Wx hSw
          go_simp
          try with_reducible rfl
        try simp only [Act.put]
        refine wpAnyH_take (i := 4) (v := ?_) rfl (by kernel_rfl) (by kernel_rfl) (by kernel_rfl) (fun _ _ _ h => h) (Or.inl ⟨by rfl, ?_⟩) (by assumption) ?_
        rotate_left
        · intro Wx hSw
          go_simp
          try with_reducible rfl
        try simp only [Act.put]
        refine wpAnyH_take (i := 6) (v := ?_) rfl (by kernel_rfl) (by kernel_rfl) (by kernel_rfl) (fun _ _ _ h => h) (Or.inl ⟨by rfl, ?_⟩) (by assumption) ?_
        rotate_left
        · intro Wx hSw
          go_simp
          try with_reducible rfl
        try simp only [Act.put]
        have iRd : Pa.Rm w3.drew rb x false := iR
        clear iR
        have hsl := HSL.out
        refine wpAnyH_take (i := 7) (v := ?_) rfl (by kernel_rfl) (by kernel_rfl) (by kernel_rfl) (fun _ _ _ h => h) (Or.inl ⟨by rfl, ?_⟩) (by assumption) ?_
        rotate_left
        · intro Wx hSw
          go_simp
          try with_reducible rfl
        try simp only [Act.put]
        clear hsl
        refine wpAnyH_ready (rs := [1]) (by kernel_rfl) (by simp) (AllReadyH.cons rfl (fun K hK => ?_) AllReadyH.nil)
        go_simp
        refine (K1 _ iRd).mono ?_
        rintro e w4 ⟨rfl, R4, f4⟩
        have iS4 := i3.drew.fr f4 (by have := HR.out; omega)
        have HF4 := Lib.hid ((HF3.out.drew).trans f4 fun j hj h => by have := HR.out; omega)
        go_simp
        refine hK.out _ _ trivial (fun hHeld => ?_)
        clear hK K f4 K1 iRd
        refine wpAnyH_ready (rs := [3]) (by kernel_rfl) (by simp) (AllReadyH.cons rfl (fun K hK => ?_) AllReadyH.nil)
        go_simp
        refine (K2 _ R4).mono ?_
        rintro e w5 ⟨rfl, R5, f5⟩
        have iS5 := iS4.fr f5 (by have := HR.out; omega)
        have HF5 := Lib.hid ((HF4.out).trans f5 fun j hj h => by have := HR.out; omega)
        go_simp
        refine hK.out _ _ trivial (fun hHeld => ?_)
        clear hK K f5 K2 R4
        refine wpAnyH_ready (rs := [5]) (by kernel_rfl) (by simp) (AllReadyH.cons rfl (fun K hK => ?_) AllReadyH.nil)
        go_simp
        refine (K4 _ R5).mono ?_
        rintro e w6 ⟨rfl, R6, f6⟩
        have iS6 := iS5.fr f6 (by have := HR.out; omega)
        have HF6 := Lib.hid ((HF5.out).trans f6 fun j hj h => by have := HR.out; omega)
        go_simp
        refine hK.out _ _ trivial (fun hHeld => ?_)
        clear hK K f6 K4 R5
        refine wpAnyH_take (i := 8) (v := ?_) rfl (by kernel_rfl) (by kernel_rfl) (by kernel_rfl) (fun _ _ _ h => h) (Or.inl ⟨by rfl, ?_⟩) (by assumption) ?_
        rotate_left
        · intro Wx hSw
          go_simp
          try with_reducible rfl
        try simp only [Act.put]
        have c0 : w6.cell? ⟨g, 0, none⟩ = some (.int .i64 0) := iS6.cell 0
        have c1 : w6.cell? ⟨g, 1, none⟩ = some (.int .i64 0) := iS6.cell 1
        have c2 : w6.cell? ⟨g, 2, none⟩ = some (.int .i64 0) := iS6.cell 2
        have c3 : w6.cell? ⟨g, 3, none⟩ = some (.string ⟨#[]⟩) := iS6.cell 3
        have z0 : w6.frozen? ⟨g, 0, none⟩ = false := iS6.frozen 0
        have z1 : w6.frozen? ⟨g, 1, none⟩ = false := iS6.frozen 1
        have z2 : w6.frozen? ⟨g, 2, none⟩ = false := iS6.frozen 2
        have z3 : w6.frozen? ⟨g, 3, none⟩ = false := iS6.frozen 3
        refine wpAnyH_ready (rs := [9]) (by kernel_rfl) (by simp) (AllReadyH.cons rfl (fun K hK => ?_) AllReadyH.nil)
        go_simp
        refine hK.out _ _ trivial (fun hHeld => ?_)
        clear hK K
        refine wpAnyH_ready (rs := [10]) (by kernel_rfl) (by simp) (AllReadyH.cons rfl (fun K hK => ?_) AllReadyH.nil)
        go_simp
        refine hK.out _ _ trivial (fun hHeld => ?_)
        clear hK K
        refine wpAnyH_done (by kernel_rfl) ?_ _
        clear c0 c1 c2 c3 z0 z1 z2 z3
        have i7 := said_set iS6 ⟨v1, v2, v4, b.drop 7, 0⟩
        rw [← HX.out] at i7
        go_wp2_with fail
        refine bodyPost_ret (said_end rfl _ _ g ⟨v1, v2, v4, b.drop 7, 0⟩ rfl i7) rfl ?_
        rw [HV1.out, HV2.out, HV4.out]
        exact ⟨rfl, HF6.out.trans (said_fr (fun k => k = g) rfl _ _ _ _) fun j hj h => by have := HG.out; omega⟩
end Go.Proofs.Ytfmhfngilimhjaa

namespace Go.Proofs.Ytfmhfngilimhjaa
open Go.RowKit Li

/-- The receiver that took telegrams of these numbers, the last one at this stamp. -/
def toR (peer age last : Int) (ns : List Int) : R := ⟨decide (0 < ns.length), (Sq.pairL ns).2, (Sq.pairL ns).1, peer, age, last⟩
theorem toR_new (peer age : Int) : R.new peer age = toR peer age (-1) [] := rfl
theorem toR_add (peer age last s n : Int) (ns : List Int) : ({ toR peer age last ns with last := s } : R).add n = toR peer age s (ns ++ [n]) := by
  cases ns with
  | nil => rfl
  | cons x r =>
    have h := Sq.pair_snoc x r n
    unfold toR
    rw [h]
    generalize Sq.pairL (x :: r) = p
    obtain ⟨a, b⟩ := p
    unfold R.add Sq.lostStep
    simp only
    split <;> rename_i hb
    · split <;> simp
    · simp at hb
theorem toR_last (peer age last : Int) (ns : List Int) : (toR peer age last ns).last = last := rfl

/-- The document's receiver lies at block b, the row of its numbers is the call's own; it took n at most. -/
def Mv (w : World) (base b n : Nat) (r : R) : Prop := ∃ (ns : List Int) (v : Value), r = toR r.peer r.age r.last ns ∧ ns.length ≤ n ∧ Is w b 106 #[.int .i64 r.peer, .int .i64 r.age, .int .i64 r.last, v] ∧ w.ownsRow base 3 1 v ns.length (ns.map (Value.int .i64))
theorem Mv.fr {w w1 : World} {base b n : Nat} {r : R} {S : Nat → Prop} (h : Mv w base b n r) (f : Fr S w w1) (hb : ¬ S b) (hn : ∀ k, S k → ∃ t cs, Is w k t cs ∧ t ≠ 3) : Mv w1 base b n r := by
  obtain ⟨ns, v, h1, h2, h3, h4⟩ := h
  refine ⟨ns, v, h1, h2, h3.fr f hb, own_fr h4 f fun k hk hs => ?_⟩
  obtain ⟨t, cs, hi, ht⟩ := hn k hs
  exact wide_is_ne h4 hi (fun e => ht e.symm) hk
theorem Mv.fr0 {w w1 : World} {base b n : Nat} {r : R} (h : Mv w base b n r) (f : Fr (fun _ => False) w w1) : Mv w1 base b n r := h.fr f id fun _ h => h.elim
theorem Mv.lost {w : World} {base b n : Nat} {r : R} (h : Mv w base b n r) : 0 ≤ r.lost ∧ r.lost ≤ (n : Int) * 32767 := by
  obtain ⟨ns, v, h1, h2, _⟩ := h
  have := Sq.pair_bd ns
  rw [h1]
  show 0 ≤ (Sq.pairL ns).1 ∧ (Sq.pairL ns).1 ≤ _
  omega

theorem rnew_any (peer age : Int) (w : World) (base : Nat) :
    Calls Try.prog 41 #[.int .i64 peer, .int .i64 age] w fun e w' => e = .returned (.pointer (some ⟨w.heap.size, 0, none⟩)) ∧ Mv w' base w.heap.size 0 (R.new peer age) ∧ Fr (fun _ => False) w w' := by
  have i1 : Is (w.alloc (.cells #[.int .i64 peer, .int .i64 age, .int .i64 (-1), .slice none 0 0] 106)) w.heap.size 106 #[.int .i64 peer, .int .i64 age, .int .i64 (-1), .slice none 0 0] := Is.new w _ _
  have f1 := (Fr.refl (fun _ => False) w).alloc (.cells #[.int .i64 peer, .int .i64 age, .int .i64 (-1), .slice none 0 0] 106)
  have m1 : Mv (w.alloc (.cells #[.int .i64 peer, .int .i64 age, .int .i64 (-1), .slice none 0 0] 106)) base w.heap.size 0 (R.new peer age) := ⟨[], .slice none 0 0, rfl, Nat.le_refl _, i1, World.ownsRow_nil _ _ _ _⟩
  have HM := Lib.hid m1
  have HF := Lib.hid f1
  clear m1 f1 i1
  go_enter Try.func41, Try.ntmps41
  go_wp2
  go_ret
  exact ⟨rfl, HM.out, HF.out⟩

def freshB (now stamp age : Int) : Bool := decide (0 ≤ now) && (decide (stamp ≤ now) && decide (now - stamp ≤ age))
theorem fresh_any (now stamp age : Int) (w : World) (hn : now ≤ 9223372036854775807) (hs : 0 ≤ stamp) :
    Calls Try.prog 74 #[.int .i64 now, .int .i64 stamp, .int .i64 age] w fun e w' => e = .returned (.bool (freshB now stamp age)) ∧ w' = w := by
  have HA : Hid (freshB now stamp age = (decide (0 ≤ now) && (decide (stamp ≤ now) && decide (now - stamp ≤ age)))) := Lib.hid rfl
  by_cases h0 : 0 ≤ now
  · by_cases h1 : stamp ≤ now
    · have d0 : decide (0 ≤ now) = true := decide_eq_true h0
      have d1 : decide (stamp ≤ now) = true := decide_eq_true h1
      have hw : wrap64 (now - stamp) = now - stamp := IntWalk.wrap64_in _ ⟨by omega, by omega⟩
      have HE : Hid (freshB now stamp age = decide (now - stamp ≤ age)) := Lib.hid (by rw [HA.out, decide_eq_true h0, decide_eq_true h1]; rfl)
      clear HA
      go_enter Try.func74, Try.ntmps74
      go_wp2
      go_ret
      exact ⟨by rw [HE.out]; rfl, rfl⟩
    · have d0 : decide (0 ≤ now) = true := decide_eq_true h0
      have d1 : decide (stamp ≤ now) = false := decide_eq_false h1
      have HE : Hid (freshB now stamp age = false) := Lib.hid (by rw [HA.out, decide_eq_false h1, Bool.false_and, Bool.and_false])
      clear HA
      go_enter Try.func74, Try.ntmps74
      go_wp2
      go_ret
      exact ⟨by rw [HE.out]; rfl, rfl⟩
  · have d0 : decide (0 ≤ now) = false := decide_eq_false h0
    have HE : Hid (freshB now stamp age = false) := Lib.hid (by rw [HA.out, decide_eq_false h0, Bool.false_and])
    clear HA
    go_enter Try.func74, Try.ntmps74
    go_wp2
    go_ret
    exact ⟨by rw [HE.out]; rfl, rfl⟩

theorem rlostr_any {w : World} {base b n : Nat} {r : R} (h : Mv w base b n r) (hn : n ≤ 17592186044416) :
    Calls Try.prog 48 #[.pointer (some ⟨b, 0, none⟩)] w fun e w' => e = .returned (.int .i64 r.lost) ∧ w' = w := by
  obtain ⟨ns, v, h1, h2, h3, h4⟩ := h
  obtain ⟨A, c, rfl, _, _⟩ := own_form h4
  have c3 : w.cell? ⟨b, 3, none⟩ = some (.slice A ns.length c) := h3.cell 3
  have K := Sq.rlost_any (c := c) (own_rd h4) (by omega)
  have HL : Hid (r.lost = Sq.lostL ns) := Lib.hid (by rw [h1, ← Sq.pair_lost]; rfl)
  generalize Sq.lostL ns = x at *
  clear h1 h2 h3 h4
  go_enter Try.func48, Try.ntmps48
  go_wp2_with fail
  refine K.mono ?_
  rintro e w1 ⟨rfl, rfl⟩
  go_wp2_with fail
  go_ret
  exact ⟨by rw [HL.out]; rfl, rfl⟩
end Go.Proofs.Ytfmhfngilimhjaa


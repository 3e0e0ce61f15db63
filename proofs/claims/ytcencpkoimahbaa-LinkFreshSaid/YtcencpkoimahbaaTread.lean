/- The contract of link.Read: what a telegram says. -/
import Derived.Test.YtcencpkoimahbaaTmake
import Derived.Test.YtcencpkoimahbaaPclone
namespace Go.Proofs.Ytcencpkoimahbaa
open Go.RowKit Li

theorem results_tmp5 {fn : Func} {t u v x y : Tmp} (h : fn.results = #[.tmp t, .tmp u, .tmp v, .tmp x, .tmp y]) (tmps : Array Value) (P : Program) (w : World) :
    (results fn tmps).run P w = .ok (.tuple #[tmps.getD t undef, tmps.getD u undef, tmps.getD v undef, tmps.getD x undef, tmps.getD y undef]) w := by
  simp [results, h]
theorem rs_tk {s : ByteArray} {n : Nat} (h : n ≤ s.size) : (Pa.Rs.mk s false).tk n = s.extract 0 n := by simp [Pa.Rs.tk, Pa.Rs.no, Nat.not_lt.2 h]
theorem rs_aft {s : ByteArray} {n : Nat} (h : n ≤ s.size) : (Pa.Rs.mk s false).aft n = ⟨s.extract n s.size, false⟩ := by simp [Pa.Rs.aft, Pa.Rs.no, Nat.not_lt.2 h]
theorem bytes_head (s : ByteArray) (n : Nat) : bytesOf (s.extract 0 n) = (bytesOf s).take n := by rw [bytesOf_extract, List.drop_zero]
theorem bytes_tail (s : ByteArray) (n : Nat) : bytesOf (s.extract n s.size) = (bytesOf s).drop n := by
  rw [bytesOf_extract, List.take_of_length_le (by rw [bytesOf_length]; omega)]

set_option maxHeartbeats 1000000 in
theorem read_any (s : ByteArray) (w : World) :
    Calls Try.prog 13 #[.string s] w fun e w' => e = .returned (.tuple #[.int .i64 (readL (bytesOf s)).p, .int .i64 (readL (bytesOf s)).n, .int .i64 (readL (bytesOf s)).s, .string ⟨(readL (bytesOf s)).x.toArray⟩, .int .i64 (readL (bytesOf s)).e]) ∧ Fr (fun _ => False) w w' := by
  have K := Se.open_any s w
  unfold readL
  generalize Crc.openL (bytesOf s) = o at *
  obtain ⟨b, e0⟩ := o
  simp only at K
  unfold readB
  simp only
  by_cases he : e0 ≠ 0
  · rw [if_pos he]
    have hb : (e0 != 0) = true := by simpa using he
    clear he
    go_enter Try.func13, Try.ntmps13
    go_wp2_with fail
    refine K.mono ?_
    rintro e w1 ⟨rfl, f1⟩
    have HF := Lib.hid f1
    clear f1 K
    go_wp2_with fail
    (try simp only [Exit.inBlock, Exit.then])
    refine bodyPost_ret (results_tmp5 rfl _ _ _) rfl ?_
    exact ⟨rfl, HF.out⟩
  · rw [if_neg he]
    have he' : e0 = 0 := Decidable.not_not.1 he
    subst he'
    clear he
    have hz : (⟨b.toArray⟩ : ByteArray).size = b.length := rfl
    by_cases h7 : b.length < 7
    · rw [if_pos h7]
      rw [← hz] at h7
      clear hz
      generalize (⟨b.toArray⟩ : ByteArray) = x at *
      go_enter Try.func13, Try.ntmps13
      go_wp2_with fail
      refine K.mono ?_
      rintro e w1 ⟨rfl, f1⟩
      have HF := Lib.hid f1
      clear f1 K
      go_wp2_with fail
      (try simp only [Exit.inBlock, Exit.then])
      refine bodyPost_ret (results_tmp5 rfl _ _ _) rfl ?_
      exact ⟨rfl, HF.out⟩
    · rw [if_neg h7]
      by_cases h8 : 1007 < b.length
      · rw [if_pos h8]
        rw [← hz] at h7 h8
        clear hz
        generalize (⟨b.toArray⟩ : ByteArray) = x at *
        go_enter Try.func13, Try.ntmps13
        go_wp2_with fail
        refine K.mono ?_
        rintro e w1 ⟨rfl, f1⟩
        have HF := Lib.hid f1
        clear f1 K
        go_wp2_with fail
        (try simp only [Exit.inBlock, Exit.then])
        refine bodyPost_ret (results_tmp5 rfl _ _ _) rfl ?_
        exact ⟨rfl, HF.out⟩
      · rw [if_neg h8]
        obtain ⟨x, hx⟩ : ∃ x : ByteArray, x = ⟨b.toArray⟩ := ⟨_, rfl⟩
        have hbx : bytesOf x = b := by rw [hx]; rfl
        rw [← hx] at K hz
        have x7 : 7 ≤ x.size := by omega
        have x8 : x.size ≤ 1007 := by omega
        have z1 : (x.extract 1 x.size).size = x.size - 1 := by rw [ByteArray.size_extract]; omega
        have z2 : ((x.extract 1 x.size).extract 2 (x.extract 1 x.size).size).size = x.size - 3 := by rw [ByteArray.size_extract, z1]; omega
        have HV1 : Hid (Pa.val (bytesOf (x.extract 0 1)) = Pa.val (b.take 1)) := Lib.hid (by rw [bytes_head, hbx])
        have HV2 : Hid (Pa.val (bytesOf ((x.extract 1 x.size).extract 0 2)) = Pa.val ((b.drop 1).take 2)) := Lib.hid (by rw [bytes_head, bytes_tail, hbx])
        have HV4 : Hid (Pa.val (bytesOf (((x.extract 1 x.size).extract 2 (x.extract 1 x.size).size).extract 0 4)) = Pa.val ((b.drop 3).take 4)) := Lib.hid (by rw [bytes_head, bytes_tail, bytes_tail, hbx, List.drop_drop])
        have HX : Hid (x.extract 7 x.size = ⟨(b.drop 7).toArray⟩) := Lib.hid (bytesOf_inj (by rw [bytes_tail, hbx]; rfl))
        have hsl : ∀ W, (Instr.slice 9 (.string x) (some (.int .i64 7)) none none).run Try.prog W = .ok (.string (x.extract 7 x.size)) W := fun W => by
          have k := run_slice_string_l (P := Try.prog) (w := W) 9 x Try.underlying9 .i64 7 (by omega) (by omega)
          exact k
        generalize x.extract 7 x.size = y at *
        clear hz hbx hx h7 h8
        have Z1 := Lib.hid z1
        have Z2 := Lib.hid z2
        have q1 : decide ((x.size : Int) < 7) = false := decide_eq_false (by omega)
        have q2 : decide ((1007 : Int) < x.size) = false := decide_eq_false (by omega)
        have X7 := Lib.hid x7
        clear z1 z2 x7 x8
        go_enter Try.func13, Try.ntmps13
        go_wp2_with fail
        refine K.mono ?_
        rintro e w1 ⟨rfl, f1⟩
        have KR := Pa.read_any x w1
        have HF := Lib.hid (f1.alloc (.cells #[.string x, .bool false] 99))
        have R1 : Pa.Re (w1.alloc (.cells #[.string x, .bool false] 99)) w1.heap.size x false := Is.new _ _ _
        have HS : Hid (w.heap.size ≤ w1.heap.size) := Lib.hid f1.size
        clear f1 K
        obtain ⟨rb, hrb⟩ : ∃ rb, rb = w1.heap.size := ⟨_, rfl⟩
        rw [← hrb] at KR R1 HS
        clear hrb
        go_wp2_with fail
        refine KR.mono ?_
        rintro e w2 ⟨rfl, hw2⟩
        rw [← hw2] at HF R1
        clear hw2 KR
        have z1 := Z1.out
        have z2 := Z2.out
        have x7 := X7.out
        have K1 := Pa.rbyte_any (r := ⟨x, false⟩) R1
        rw [rs_tk (by omega), rs_aft (by omega)] at K1
        simp only at K1
        have K2 : ∀ W, Pa.Re W rb (x.extract 1 x.size) false → _ := fun W h => Pa.rword_any (r := ⟨x.extract 1 x.size, false⟩) h
        rw [rs_tk (by omega), rs_aft (by omega)] at K2
        simp only at K2
        have K4 : ∀ W, Pa.Re W rb ((x.extract 1 x.size).extract 2 (x.extract 1 x.size).size) false → _ := fun W h => Pa.rlong_any (r := ⟨(x.extract 1 x.size).extract 2 (x.extract 1 x.size).size, false⟩) h
        rw [rs_tk (by omega), rs_aft (by omega)] at K4
        simp only at K4
        clear z1 z2 x7 Z1 Z2 X7
        generalize Pa.val (bytesOf (((x.extract 1 x.size).extract 2 (x.extract 1 x.size).size).extract 0 4)) = v4 at *
        generalize Pa.val (bytesOf ((x.extract 1 x.size).extract 0 2)) = v2 at *
        generalize Pa.val (bytesOf (x.extract 0 1)) = v1 at *
        generalize (x.extract 1 x.size).extract 2 (x.extract 1 x.size).size = y2 at *
        generalize x.extract 1 x.size = y1 at *
        have HK2 := Lib.hid K2
        have HK4 := Lib.hid K4
        clear K2 K4
        go_wp2_with fail
        refine K1.mono ?_
        rintro e w3 ⟨rfl, R3, g3⟩
        have K2' := HK2.out _ R3
        clear R1 R3 K1 HK2
        go_wp2_with fail
        refine K2'.mono ?_
        rintro e w4 ⟨rfl, R4, g4⟩
        have K4' := HK4.out _ R4
        clear R4 K2' HK4
        go_wp2_with fail
        refine K4'.mono ?_
        rintro e w5 ⟨rfl, R5, g5⟩
        clear K4' R5
        go_wp2_with fail
        go_quiet (fail)
        go_wp2_with fail
        (try simp only [Exit.inBlock, Exit.then])
        refine bodyPost_ret (results_tmp5 rfl _ _ _) rfl ?_
        rw [HX.out, HV1.out, HV2.out, HV4.out]
        have gg := ((g3.trans g4 fun _ _ h => h).trans g5 fun _ _ h => h)
        exact ⟨rfl, (HF.out.trans gg fun j hj h => by have := HS.out; omega).drewN _⟩
end Go.Proofs.Ytcencpkoimahbaa

/- The contract of the document's own Read (package ballastref09). -/
import Derived.Test.YtcencpkoimahbaaRtmake
import Derived.Deep.RegionHeld3
import Derived.Laws.ResultCell
namespace Go.Proofs.Ytcencpkoimahbaa
open Go.RowKit Li

/-- what a telegram says, as a struct of the document's own -/
def saidV (t : T) : Value := .agg #[.int .i64 t.p, .int .i64 t.n, .int .i64 t.s, .string ⟨t.x.toArray⟩]
def saidR (t : T) : Array Value := #[.int .i64 t.p, .int .i64 t.n, .int .i64 t.s, .string ⟨t.x.toArray⟩]

theorem said_end {fn : Func} {p u : Tmp} (h : fn.results = #[.cell p 23, .tmp u]) (tmps : Array Value) (w : World) (g : Nat) (t : T) (hp : tmps.getD p undef = .pointer (some ⟨g, 0, none⟩)) (hI : Is w g 23 (saidR t)) :
    (results fn tmps).run Try.prog w = .ok (.tuple #[saidV t, tmps.getD u undef]) w := by
  have k := run_loadVar_row (P := Try.prog) w g 23 23 (saidR t) (0, 0) _ hI Try.underlying23 rfl (by kernel_rfl)
  rw [results_cell_tmp h, hp]
  simp [asAddr, k, Result.andThen, saidV, saidR]
/-- a struct of these four cells, stored cell by cell -/
theorem said_set {w : World} {g : Nat} {t0 : T} (h : Is w g 23 (saidR t0)) (t : T) :
    Is ((((w.setCell ⟨g, 0, none⟩ (.int .i64 t.p)).setCell ⟨g, 1, none⟩ (.int .i64 t.n)).setCell ⟨g, 2, none⟩ (.int .i64 t.s)).setCell ⟨g, 3, none⟩ (.string ⟨t.x.toArray⟩)) g 23 (saidR t) := by
  have := (((h.set 0 (.int .i64 t.p)).set 1 (.int .i64 t.n)).set 2 (.int .i64 t.s)).set 3 (.string ⟨t.x.toArray⟩)
  simpa [saidR] using this
theorem said_fr {w : World} {g : Nat} (S : Nat → Prop) (hs : S g) (a b c d : Value) : Fr S w ((((w.setCell ⟨g, 0, none⟩ a).setCell ⟨g, 1, none⟩ b).setCell ⟨g, 2, none⟩ c).setCell ⟨g, 3, none⟩ d) :=
  ((((Fr.refl S w).setCell (p := ⟨g, 0, none⟩) (.inl hs) _).setCell (p := ⟨g, 1, none⟩) (.inl hs) _).setCell (p := ⟨g, 2, none⟩) (.inl hs) _).setCell (p := ⟨g, 3, none⟩) (.inl hs) _

set_option maxHeartbeats 2000000 in
theorem rread_any (s : ByteArray) (hs : s.size ≤ 140737488355328) (w : World) :
    Calls Try.prog 14 #[.string s] w fun e w' => e = .returned (.tuple #[saidV (readL (bytesOf s)), .int .i64 (readL (bytesOf s)).e]) ∧ Fr (fun _ => False) w w' := by
  have K := fun W => Se.refopen_any s hs W
  unfold readL
  generalize Crc.openL (bytesOf s) = o at *
  obtain ⟨b, e0⟩ := o
  simp only at K
  have HL := Lib.hid ((Fr.refl (fun _ => False) w).alloc (.cells #[.int .i64 0, .int .i64 0, .int .i64 0, .string ⟨#[]⟩] 23))
  have iL : Is (w.alloc (.cells #[.int .i64 0, .int .i64 0, .int .i64 0, .string ⟨#[]⟩] 23)) w.heap.size 23 #[.int .i64 0, .int .i64 0, .int .i64 0, .string ⟨#[]⟩] := Is.new w _ _
  obtain ⟨g, hg⟩ : ∃ g, g = w.heap.size := ⟨_, rfl⟩
  rw [← hg] at iL
  have HG : Hid (w.heap.size ≤ g) := Lib.hid (by omega)
  unfold readB
  simp only
  by_cases he : e0 ≠ 0
  · rw [if_pos he]
    have hb : (e0 != 0) = true := by simpa using he
    clear he
    go_enter Try.func14, Try.ntmps14
    go_wp2_with fail
    rw [← hg]
    clear hg
    generalize w.alloc (.cells #[.int .i64 0, .int .i64 0, .int .i64 0, .string ⟨#[]⟩] 23) = w1 at *
    refine (K w1).mono ?_
    rintro e w2 ⟨rfl, f2⟩
    have i2 : Is w2 g 23 (saidR ⟨0, 0, 0, [], 0⟩) := iL.fr f2 id
    have HF := Lib.hid (HL.out.trans f2 fun _ _ h => h)
    clear f2 K HL iL
    have c0 : w2.cell? ⟨g, 0, none⟩ = some (.int .i64 0) := i2.cell 0
    have c1 : w2.cell? ⟨g, 1, none⟩ = some (.int .i64 0) := i2.cell 1
    have c2 : w2.cell? ⟨g, 2, none⟩ = some (.int .i64 0) := i2.cell 2
    have c3 : w2.cell? ⟨g, 3, none⟩ = some (.string ⟨#[]⟩) := i2.cell 3
    have z0 : w2.frozen? ⟨g, 0, none⟩ = false := i2.frozen 0
    have z1 : w2.frozen? ⟨g, 1, none⟩ = false := i2.frozen 1
    have z2 : w2.frozen? ⟨g, 2, none⟩ = false := i2.frozen 2
    have z3 : w2.frozen? ⟨g, 3, none⟩ = false := i2.frozen 3
    go_wp2_with fail
    have i3 := said_set i2 ⟨0, 0, 0, [], e0⟩
    refine bodyPost_ret (said_end rfl _ _ g _ rfl i3) rfl ?_
    exact ⟨rfl, HF.out.trans (said_fr (fun k => k = g) rfl _ _ _ _) fun j hj h => by have := HG.out; omega⟩
  · rw [if_neg he]
    have he' : e0 = 0 := Decidable.not_not.1 he
    subst he'
    clear he
    have hz : (⟨b.toArray⟩ : ByteArray).size = b.length := rfl
    by_cases h7 : b.length < 7
    · rw [if_pos h7]
      rw [← hz] at h7
      clear hz
      generalize (⟨b.toArray⟩ : ByteArray) = x at *
      go_enter Try.func14, Try.ntmps14
      go_wp2_with fail
      rw [← hg]
      clear hg
      generalize w.alloc (.cells #[.int .i64 0, .int .i64 0, .int .i64 0, .string ⟨#[]⟩] 23) = w1 at *
      refine (K w1).mono ?_
      rintro e w2 ⟨rfl, f2⟩
      have i2 : Is w2 g 23 (saidR ⟨0, 0, 0, [], 0⟩) := iL.fr f2 id
      have HF := Lib.hid (HL.out.trans f2 fun _ _ h => h)
      clear f2 K HL iL
      have c0 : w2.cell? ⟨g, 0, none⟩ = some (.int .i64 0) := i2.cell 0
      have c1 : w2.cell? ⟨g, 1, none⟩ = some (.int .i64 0) := i2.cell 1
      have c2 : w2.cell? ⟨g, 2, none⟩ = some (.int .i64 0) := i2.cell 2
      have c3 : w2.cell? ⟨g, 3, none⟩ = some (.string ⟨#[]⟩) := i2.cell 3
      have z0 : w2.frozen? ⟨g, 0, none⟩ = false := i2.frozen 0
      have z1 : w2.frozen? ⟨g, 1, none⟩ = false := i2.frozen 1
      have z2 : w2.frozen? ⟨g, 2, none⟩ = false := i2.frozen 2
      have z3 : w2.frozen? ⟨g, 3, none⟩ = false := i2.frozen 3
      go_wp2_with fail
      have i3 := said_set i2 ⟨0, 0, 0, [], 3⟩
      refine bodyPost_ret (said_end rfl _ _ g _ rfl i3) rfl ?_
      exact ⟨rfl, HF.out.trans (said_fr (fun k => k = g) rfl _ _ _ _) fun j hj h => by have := HG.out; omega⟩
    · rw [if_neg h7]
      by_cases h8 : 1007 < b.length
      · rw [if_pos h8]
        rw [← hz] at h7 h8
        clear hz
        generalize (⟨b.toArray⟩ : ByteArray) = x at *
        go_enter Try.func14, Try.ntmps14
        go_wp2_with fail
        rw [← hg]
        clear hg
        generalize w.alloc (.cells #[.int .i64 0, .int .i64 0, .int .i64 0, .string ⟨#[]⟩] 23) = w1 at *
        refine (K w1).mono ?_
        rintro e w2 ⟨rfl, f2⟩
        have i2 : Is w2 g 23 (saidR ⟨0, 0, 0, [], 0⟩) := iL.fr f2 id
        have HF := Lib.hid (HL.out.trans f2 fun _ _ h => h)
        clear f2 K HL iL
        have c0 : w2.cell? ⟨g, 0, none⟩ = some (.int .i64 0) := i2.cell 0
        have c1 : w2.cell? ⟨g, 1, none⟩ = some (.int .i64 0) := i2.cell 1
        have c2 : w2.cell? ⟨g, 2, none⟩ = some (.int .i64 0) := i2.cell 2
        have c3 : w2.cell? ⟨g, 3, none⟩ = some (.string ⟨#[]⟩) := i2.cell 3
        have z0 : w2.frozen? ⟨g, 0, none⟩ = false := i2.frozen 0
        have z1 : w2.frozen? ⟨g, 1, none⟩ = false := i2.frozen 1
        have z2 : w2.frozen? ⟨g, 2, none⟩ = false := i2.frozen 2
        have z3 : w2.frozen? ⟨g, 3, none⟩ = false := i2.frozen 3
        go_wp2_with fail
        have i3 := said_set i2 ⟨0, 0, 0, [], 2⟩
        refine bodyPost_ret (said_end rfl _ _ g _ rfl i3) rfl ?_
        exact ⟨rfl, HF.out.trans (said_fr (fun k => k = g) rfl _ _ _ _) fun j hj h => by have := HG.out; omega⟩
      · rw [if_neg h8]
        obtain ⟨x, hx⟩ : ∃ x : ByteArray, x = ⟨b.toArray⟩ := ⟨_, rfl⟩
        have hbx : bytesOf x = b := by rw [hx]; rfl
        rw [← hx] at K hz
        have x7 : 7 ≤ x.size := by omega
        have z1 : (x.extract 1 x.size).size = x.size - 1 := by rw [ByteArray.size_extract]; omega
        have z2 : ((x.extract 1 x.size).extract 2 (x.extract 1 x.size).size).size = x.size - 3 := by rw [ByteArray.size_extract, z1]; omega
        have HV1 : Hid (Pa.val (bytesOf (x.extract 0 1)) = Pa.val (b.take 1)) := Lib.hid (by rw [bytes_head, hbx])
        have HV2 : Hid (Pa.val (bytesOf ((x.extract 1 x.size).extract 0 2)) = Pa.val ((b.drop 1).take 2)) := Lib.hid (by rw [bytes_head, bytes_tail, hbx])
        have HV4 : Hid (Pa.val (bytesOf (((x.extract 1 x.size).extract 2 (x.extract 1 x.size).size).extract 0 4)) = Pa.val ((b.drop 3).take 4)) := Lib.hid (by rw [bytes_head, bytes_tail, bytes_tail, hbx, List.drop_drop])
        have HX : Hid (x.extract 7 x.size = ⟨(b.drop 7).toArray⟩) := Lib.hid (bytesOf_inj (by rw [bytes_tail, hbx]; rfl))
        have hsl : ∀ W, (Instr.slice 9 (.string x) (some (.int .i64 7)) none none).run Try.prog W = .ok (.string (x.extract 7 x.size)) W := fun W => by
          have k := run_slice_string_l (P := Try.prog) (w := W) 9 x Try.underlying9 .i64 7 (by omega) (by omega)
          exact k
        have HSL := Lib.hid hsl
        clear hsl
        have Z1 := Lib.hid z1
        have Z2 := Lib.hid z2
        have q1 : decide ((x.size : Int) < 7) = false := decide_eq_false (by omega)
        have q2 : decide ((1007 : Int) < x.size) = false := decide_eq_false (by omega)
        have X7 := Lib.hid x7
        clear z1 z2 x7
        generalize x.extract 7 x.size = y at *
        clear hz hbx hx h7 h8
        go_enter Try.func14, Try.ntmps14
        go_wp2_with fail
        rw [← hg]
        clear hg
        generalize w.alloc (.cells #[.int .i64 0, .int .i64 0, .int .i64 0, .string ⟨#[]⟩] 23) = w1 at *
        refine (K w1).mono ?_
        rintro e w2 ⟨rfl, f2⟩
        have i2 : Is w2 g 23 (saidR ⟨0, 0, 0, [], 0⟩) := iL.fr f2 id
        have HF := Lib.hid (HL.out.trans f2 fun _ _ h => h)
        clear f2 K HL iL
        have iR : Is (w2.alloc (.cells #[.string x, .bool false] 74)) w2.heap.size 74 #[.string x, .bool false] := Is.new w2 _ _
        obtain ⟨rb, hrb⟩ : ∃ rb, rb = w2.heap.size := ⟨_, rfl⟩
        rw [← hrb] at iR
        have i3 := i2.alloc (.cells #[.string x, .bool false] 74)
        have HR : Hid (w.heap.size ≤ rb ∧ g < rb) := Lib.hid ⟨by have := HF.out.size; omega, by have := i2.lt; omega⟩
        have HF3 := Lib.hid (HF.out.alloc (.cells #[.string x, .bool false] 74))
        clear HF i2
        go_wp2_with fail
        rw [← hrb]
        clear hrb
        generalize w2.alloc (.cells #[.string x, .bool false] 74) = w3 at *
        have z1 := Z1.out
        have z2 := Z2.out
        have x7 := X7.out
        have K1 : ∀ W, Pa.Rm W rb x false → _ := fun W h => Pa.mrnum_any (r := ⟨x, false⟩) h 1 (by omega)
        rw [rs_tk (by omega), rs_aft (by omega)] at K1
        simp only at K1
        have K2 : ∀ W, Pa.Rm W rb (x.extract 1 x.size) false → _ := fun W h => Pa.mrnum_any (r := ⟨x.extract 1 x.size, false⟩) h 2 (by omega)
        rw [rs_tk (by omega), rs_aft (by omega)] at K2
        simp only at K2
        have K4 : ∀ W, Pa.Rm W rb ((x.extract 1 x.size).extract 2 (x.extract 1 x.size).size) false → _ := fun W h => Pa.mrnum_any (r := ⟨(x.extract 1 x.size).extract 2 (x.extract 1 x.size).size, false⟩) h 4 (by omega)
        rw [rs_tk (by omega), rs_aft (by omega)] at K4
        simp only at K4
        clear z1 z2 x7 Z1 Z2 X7 q1 q2
        generalize Pa.val (bytesOf (((x.extract 1 x.size).extract 2 (x.extract 1 x.size).size).extract 0 4)) = v4 at *
        generalize Pa.val (bytesOf ((x.extract 1 x.size).extract 0 2)) = v2 at *
        generalize Pa.val (bytesOf (x.extract 0 1)) = v1 at *
        generalize (x.extract 1 x.size).extract 2 (x.extract 1 x.size).size = y2 at *
        generalize x.extract 1 x.size = y1 at *
        refine wp_region_held_drew (S := fun Wx => True) (by kernel_rfl) trivial (fun hHeld => ?_)
        refine wpAnyH_take (i := 0) (v := ?_) rfl (by kernel_rfl) (by kernel_rfl) (by kernel_rfl) (fun _ _ _ h => h) (Or.inl ⟨by rfl, ?_⟩) (by assumption) ?_
        rotate_left
        · intro Wx hSw
          go_simp
          try with_reducible rfl
        try simp only [Act.put]
        refine wpAnyH_take (i := 2) (v := ?_) rfl (by kernel_rfl) (by kernel_rfl) (by kernel_rfl) (fun _ _ _ h => h) (Or.inl ⟨by rfl, ?_⟩) (by assumption) ?_
        rotate_left
        · intro Wx hSw
          go_simp
          try with_reducible rfl
        try simp only [Act.put]
        refine wpAnyH_take (i := 4) (v := ?_) rfl (by kernel_rfl) (by kernel_rfl) (by kernel_rfl) (fun _ _ _ h => h) (Or.inl ⟨by rfl, ?_⟩) (by assumption) ?_
        rotate_left
        · intro Wx hSw
          go_simp
          try with_reducible rfl
        try simp only [Act.put]
        refine wpAnyH_take (i := 6) (v := ?_) rfl (by kernel_rfl) (by kernel_rfl) (by kernel_rfl) (fun _ _ _ h => h) (Or.inl ⟨by rfl, ?_⟩) (by assumption) ?_
        rotate_left
        · intro Wx hSw
          go_simp
          try with_reducible rfl
        try simp only [Act.put]
        have iRd : Pa.Rm w3.drew rb x false := iR
        clear iR
        have hsl := HSL.out
        refine wpAnyH_take (i := 7) (v := ?_) rfl (by kernel_rfl) (by kernel_rfl) (by kernel_rfl) (fun _ _ _ h => h) (Or.inl ⟨by rfl, ?_⟩) (by assumption) ?_
        rotate_left
        · intro Wx hSw
          go_simp
          try with_reducible rfl
        try simp only [Act.put]
        clear hsl
        refine wpAnyH_ready (rs := [1]) (by kernel_rfl) (by simp) (AllReadyH.cons rfl (fun K hK => ?_) AllReadyH.nil)
        go_simp
        refine (K1 _ iRd).mono ?_
        rintro e w4 ⟨rfl, R4, f4⟩
        have iS4 := i3.drew.fr f4 (by have := HR.out; omega)
        have HF4 := Lib.hid ((HF3.out.drew).trans f4 fun j hj h => by have := HR.out; omega)
        go_simp
        refine hK.out _ _ trivial (fun hHeld => ?_)
        clear hK K f4 K1 iRd
        refine wpAnyH_ready (rs := [3]) (by kernel_rfl) (by simp) (AllReadyH.cons rfl (fun K hK => ?_) AllReadyH.nil)
        go_simp
        refine (K2 _ R4).mono ?_
        rintro e w5 ⟨rfl, R5, f5⟩
        have iS5 := iS4.fr f5 (by have := HR.out; omega)
        have HF5 := Lib.hid ((HF4.out).trans f5 fun j hj h => by have := HR.out; omega)
        go_simp
        refine hK.out _ _ trivial (fun hHeld => ?_)
        clear hK K f5 K2 R4
        refine wpAnyH_ready (rs := [5]) (by kernel_rfl) (by simp) (AllReadyH.cons rfl (fun K hK => ?_) AllReadyH.nil)
        go_simp
        refine (K4 _ R5).mono ?_
        rintro e w6 ⟨rfl, R6, f6⟩
        have iS6 := iS5.fr f6 (by have := HR.out; omega)
        have HF6 := Lib.hid ((HF5.out).trans f6 fun j hj h => by have := HR.out; omega)
        go_simp
        refine hK.out _ _ trivial (fun hHeld => ?_)
        clear hK K f6 K4 R5
        refine wpAnyH_take (i := 8) (v := ?_) rfl (by kernel_rfl) (by kernel_rfl) (by kernel_rfl) (fun _ _ _ h => h) (Or.inl ⟨by rfl, ?_⟩) (by assumption) ?_
        rotate_left
        · intro Wx hSw
          go_simp
          try with_reducible rfl
        try simp only [Act.put]
        have c0 : w6.cell? ⟨g, 0, none⟩ = some (.int .i64 0) := iS6.cell 0
        have c1 : w6.cell? ⟨g, 1, none⟩ = some (.int .i64 0) := iS6.cell 1
        have c2 : w6.cell? ⟨g, 2, none⟩ = some (.int .i64 0) := iS6.cell 2
        have c3 : w6.cell? ⟨g, 3, none⟩ = some (.string ⟨#[]⟩) := iS6.cell 3
        have z0 : w6.frozen? ⟨g, 0, none⟩ = false := iS6.frozen 0
        have z1 : w6.frozen? ⟨g, 1, none⟩ = false := iS6.frozen 1
        have z2 : w6.frozen? ⟨g, 2, none⟩ = false := iS6.frozen 2
        have z3 : w6.frozen? ⟨g, 3, none⟩ = false := iS6.frozen 3
        refine wpAnyH_ready (rs := [9]) (by kernel_rfl) (by simp) (AllReadyH.cons rfl (fun K hK => ?_) AllReadyH.nil)
        go_simp
        refine hK.out _ _ trivial (fun hHeld => ?_)
        clear hK K
        refine wpAnyH_ready (rs := [10]) (by kernel_rfl) (by simp) (AllReadyH.cons rfl (fun K hK => ?_) AllReadyH.nil)
        go_simp
        refine hK.out _ _ trivial (fun hHeld => ?_)
        clear hK K
        refine wpAnyH_done (by kernel_rfl) ?_ _
        clear c0 c1 c2 c3 z0 z1 z2 z3
        have i7 := said_set iS6 ⟨v1, v2, v4, b.drop 7, 0⟩
        rw [← HX.out] at i7
        go_wp2_with fail
        refine bodyPost_ret (said_end rfl _ _ g ⟨v1, v2, v4, b.drop 7, 0⟩ rfl i7) rfl ?_
        rw [HV1.out, HV2.out, HV4.out]
        exact ⟨rfl, HF6.out.trans (said_fr (fun k => k = g) rfl _ _ _ _) fun j hj h => by have := HG.out; omega⟩
end Go.Proofs.Ytcencpkoimahbaa

/- The contracts of the receiver's Take, and of the sender. -/
import Derived.Test.YtcencpkoimahbaaRecv
import Derived.Test.YtcencpkoimahbaaFramed
namespace Go.Proofs.Ytcencpkoimahbaa
open Go.RowKit Li

theorem take_bad {r : R} {now : Int} {t : T} (h : t.e ≠ 0) : r.take now t = ([], t.e, r) := by unfold R.take; rw [if_pos h]
theorem take_no {r : R} {now : Int} {t : T} (h : t.e = 0) (k : r.refuse now t.p t.s ≠ 0) : r.take now t = ([], r.refuse now t.p t.s, r) := by unfold R.take; rw [if_neg (by omega), if_pos k]
theorem take_ok {r : R} {now : Int} {t : T} (h : t.e = 0) (k : r.refuse now t.p t.s = 0) : r.take now t = (t.x, 0, { r with last := t.s }.add t.n) := by unfold R.take; rw [if_neg (by omega), if_neg (by omega)]

set_option maxHeartbeats 1000000 in
theorem take_any {w : World} {b : Nat} {r : R} (h : Rv w b r) (now : Int) (s : ByteArray) (hn : now ≤ 9223372036854775807) (hl0 : 0 ≤ r.lost) (hl : r.lost ≤ 4611686018427387904) :
    Calls Try.prog 17 #[.pointer (some ⟨b, 0, none⟩), .int .i64 now, .string s] w fun e w' => e = .returned (.tuple #[.string ⟨(r.take now (readL (bytesOf s))).1.toArray⟩, .int .i64 (r.take now (readL (bytesOf s))).2.1]) ∧ Rv w' b (r.take now (readL (bytesOf s))).2.2 ∧ Fr (fun k => k = b) w w' := by
  have KR := read_any s w
  have hbd := read_bd (l := bytesOf s)
  generalize readL (bytesOf s) = t at *
  by_cases he : t.e = 0
  · have hs := (hbd he).2.2.2.2.1
    clear hbd
    by_cases hr : r.refuse now t.p t.s = 0
    · have HT := Lib.hid (take_ok he hr)
      have KF := fun (w1 : World) (f : Fr (fun _ => False) w w1) => refusal_any (h.fr f id) now t.p t.s hn hs
      rw [hr] at KF
      have HK := Lib.hid KF
      rw [he] at KR
      obtain ⟨p, n, st, x, e1⟩ := t
      simp only at KR
      have H0 := Lib.hid h
      clear KF hr he hs h
      go_enter Try.func17, Try.ntmps17
      go_wp2_with fail
      refine KR.mono ?_
      rintro e w1 ⟨rfl, f1⟩
      have K2 := HK.out w1 f1
      have i1 := H0.out.fr f1 id
      have HF1 := Lib.hid f1
      clear KR HK f1
      go_wp2_with fail
      refine K2.mono ?_
      rintro e w2 ⟨rfl, rfl⟩
      have z5 : w2.frozen? ⟨b, 5, none⟩ = false := Is.frozen i1 5
      have c5 : w2.cell? ⟨b, 5, none⟩ = some (.int .i64 r.last) := (rv_cells i1).2.2.2.2.2
      have i2 : Rv (w2.setCell ⟨b, 5, none⟩ (.int .i64 st)) b { r with last := st } := by
        have := Is.set i1 5 (.int .i64 st)
        simpa [rvR, Rv] using this
      have HF2 := Lib.hid ((HF1.out.mono fun _ _ h => h.elim).setCell (S := fun k => k = b) (p := ⟨b, 5, none⟩) (.inl rfl) (.int .i64 st))
      have KA := add_any i2 n hl0 hl
      clear K2 i1 HF1 i2
      go_wp2_with fail
      refine KA.mono ?_
      rintro e w3 ⟨rfl, i3, f3⟩
      have HI := Lib.hid i3
      have HF3 := Lib.hid (HF2.out.trans f3 fun _ _ h => h)
      clear KA i3 f3 HF2 z5 c5
      go_wp2_with fail
      go_ret2
      rw [HT.out]
      exact ⟨rfl, HI.out, HF3.out⟩
    · have HT := Lib.hid (take_no he hr)
      have KF := fun (w1 : World) (f : Fr (fun _ => False) w w1) => refusal_any (h.fr f id) now t.p t.s hn hs
      have hb : (r.refuse now t.p t.s != 0) = true := by simpa using hr
      generalize r.refuse now t.p t.s = q at *
      have HK := Lib.hid KF
      rw [he] at KR
      obtain ⟨p, n, st, x, e1⟩ := t
      simp only at KR
      have H0 := Lib.hid h
      clear KF hr he hs h
      go_enter Try.func17, Try.ntmps17
      go_wp2_with fail
      refine KR.mono ?_
      rintro e w1 ⟨rfl, f1⟩
      have K2 := HK.out w1 f1
      have HF1 := Lib.hid f1
      clear KR HK f1
      go_wp2_with fail
      refine K2.mono ?_
      rintro e w2 ⟨rfl, rfl⟩
      clear K2
      go_wp2_with fail
      go_ret2
      rw [HT.out]
      exact ⟨rfl, H0.out.fr HF1.out id, HF1.out.mono fun _ _ h => h.elim⟩
  · have HT := Lib.hid (take_bad (r := r) (now := now) he)
    have hb : (t.e != 0) = true := by simpa using he
    have hb2 : (t.e == 0) = false := by simpa using he
    obtain ⟨p, n, st, x, e1⟩ := t
    simp only at KR hb hb2
    have H0 := Lib.hid h
    clear he h hbd
    go_enter Try.func17, Try.ntmps17
    go_wp2_with fail
    refine KR.mono ?_
    rintro e w1 ⟨rfl, f1⟩
    have HF1 := Lib.hid f1
    clear KR f1
    go_wp2_with fail
    go_ret2
    rw [HT.out]
    exact ⟨rfl, H0.out.fr HF1.out id, HF1.out.mono fun _ _ h => h.elim⟩

/-- The program's sender lies at block b: the number that was used last, its peer. -/
def Sd (w : World) (b : Nat) (used peer : Int) : Prop := Is w b 83 #[.int .i64 used, .int .i64 peer]
theorem newsend_any (peer : Int) (w : World) :
    Calls Try.prog 24 #[.int .i64 peer] w fun e w' => e = .returned (.pointer (some ⟨w.heap.size, 0, none⟩)) ∧ Sd w' w.heap.size 0 peer ∧ Fr (fun _ => False) w w' := by
  have i1 : Sd (w.alloc (.cells #[.int .i64 0, .int .i64 peer] 83)) w.heap.size 0 peer := Is.new w _ _
  have f1 := (Fr.refl (fun _ => False) w).alloc (.cells #[.int .i64 0, .int .i64 peer] 83)
  go_enter Try.func24, Try.ntmps24
  go_wp2
  go_ret
  exact ⟨rfl, i1, f1⟩
theorem next_any {w : World} {b : Nat} {used peer : Int} (h : Sd w b used peer) :
    Calls Try.prog 47 #[.pointer (some ⟨b, 0, none⟩)] w fun e w' => e = .returned (.int .i64 (Sq.ofZ (used + 1))) ∧ w' = w := by
  have c0 : w.cell? ⟨b, 0, none⟩ = some (.int .i64 used) := Is.cell h 0
  have K := Sq.next_any used
  go_enter Try.func47, Try.ntmps47
  go_wp2_with fail
  refine (K _).mono ?_
  clear K
  rintro e w1 ⟨rfl, rfl⟩
  go_wp2
  go_ret
  exact ⟨rfl, rfl⟩
theorem use_any {w : World} {b : Nat} {used peer : Int} (h : Sd w b used peer) :
    Calls Try.prog 48 #[.pointer (some ⟨b, 0, none⟩)] w fun e w' => e = .returned (.tuple #[]) ∧ Sd w' b (Sq.ofZ (used + 1)) peer ∧ Fr (fun k => k = b) w w' := by
  have K := next_any h
  have z0 : w.frozen? ⟨b, 0, none⟩ = false := Is.frozen h 0
  have c0 : w.cell? ⟨b, 0, none⟩ = some (.int .i64 used) := Is.cell h 0
  have i2 : Sd (w.setCell ⟨b, 0, none⟩ (.int .i64 (Sq.ofZ (used + 1)))) b (Sq.ofZ (used + 1)) peer := by
    have := Is.set h 0 (.int .i64 (Sq.ofZ (used + 1)))
    simpa [Sd] using this
  have HI := Lib.hid i2
  have HF := Lib.hid ((Fr.refl (fun k => k = b) w).setCell (p := ⟨b, 0, none⟩) (.inl rfl) (.int .i64 (Sq.ofZ (used + 1))))
  generalize Sq.ofZ (used + 1) = m at *
  clear i2
  go_enter Try.func48, Try.ntmps48
  go_wp2_with fail
  refine K.mono ?_
  clear K
  rintro e w1 ⟨rfl, rfl⟩
  go_wp2_with fail
  go_end0
  exact ⟨rfl, HI.out, HF.out⟩
/-- what a sender that used a number last has used behind a telegram -/
def useZ (used peer now : Int) (x : List UInt8) : Int := if (makeL peer (Sq.ofZ (used + 1)) now x).2 = 0 then Sq.ofZ (used + 1) else used
set_option maxHeartbeats 1000000 in
theorem send_any {w : World} {b : Nat} {used peer : Int} (h : Sd w b used peer) (now : Int) (x : ByteArray) :
    Calls Try.prog 25 #[.pointer (some ⟨b, 0, none⟩), .int .i64 now, .string x] w fun e w' => e = .returned (.tuple #[.string ⟨(makeL peer (Sq.ofZ (used + 1)) now (bytesOf x)).1.toArray⟩, .int .i64 (makeL peer (Sq.ofZ (used + 1)) now (bytesOf x)).2]) ∧ Sd w' b (useZ used peer now (bytesOf x)) peer ∧ Fr (fun k => k = b) w w' := by
  have c1 : w.cell? ⟨b, 1, none⟩ = some (.int .i64 peer) := Is.cell h 1
  have x1 := cell_fro c1
  have KN := fun (u : Fro w) => (next_any (h.fr u.f id)).mono fun e w' (k : e = .returned (.int .i64 (Sq.ofZ (used + 1))) ∧ w' = u.w) => (⟨k.1, k.2.symm⟩ : e = .returned (.int .i64 (Sq.ofZ (used + 1))) ∧ u.w = w')
  have KM := fun W => make_any peer (Sq.ofZ (used + 1)) now x W
  have KU := fun W (f : Fr (fun _ => False) w W) => use_any (h.fr f id)
  have HU : Hid (useZ used peer now (bytesOf x) = if (makeL peer (Sq.ofZ (used + 1)) now (bytesOf x)).2 = 0 then Sq.ofZ (used + 1) else used) := Lib.hid rfl
  generalize useZ used peer now (bytesOf x) = u at *
  generalize makeL peer (Sq.ofZ (used + 1)) now (bytesOf x) = o at *
  obtain ⟨t, e0⟩ := o
  simp only at KM
  generalize Sq.ofZ (used + 1) = m at *
  have HK := Lib.hid KU
  have H0 := Lib.hid h
  clear KU h c1
  by_cases he : e0 = 0
  · subst he
    have HE : Hid (u = m) := Lib.hid (by rw [HU.out, if_pos rfl])
    clear HU
    go_enter Try.func25, Try.ntmps25
    go_wp2_with fail
    refine region_fro (by kernel_rfl) (by kernel_rfl) ?_
    repeat (go_big_quiet_step (first | (go_at_call 47; with_reducible exact call_fro_same (KN _)) | (go_at_call 11; with_reducible exact call_fro (KM _))))
    refine wpQuiet_nil ?_
    rintro _ ⟨⟨w2, f2⟩, rfl⟩
    have K3 := HK.out _ f2
    have HF := Lib.hid f2
    clear KM KN x1 f2 HK
    go_wp2_with fail
    refine K3.mono ?_
    rintro e w3 ⟨rfl, i3, f3⟩
    have HI := Lib.hid i3
    have HF3 := Lib.hid ((HF.out.mono fun _ _ h => h.elim).trans (S := fun k => k = b) f3 fun _ _ h => h)
    clear K3 i3 f3
    go_wp2_with fail
    go_ret2
    rw [HE.out]
    exact ⟨rfl, HI.out, HF3.out⟩
  · have hb : (e0 == 0) = false := by simpa using he
    have HE : Hid (u = used) := Lib.hid (by rw [HU.out, if_neg he])
    clear HU he
    go_enter Try.func25, Try.ntmps25
    go_wp2_with fail
    refine region_fro (by kernel_rfl) (by kernel_rfl) ?_
    repeat (go_big_quiet_step (first | (go_at_call 47; with_reducible exact call_fro_same (KN _)) | (go_at_call 11; with_reducible exact call_fro (KM _))))
    refine wpQuiet_nil ?_
    rintro _ ⟨⟨w2, f2⟩, rfl⟩
    have HF := Lib.hid f2
    clear KM KN x1 f2 HK
    go_wp2_with fail
    go_ret2
    rw [HE.out]
    exact ⟨rfl, H0.out.fr HF.out id, HF.out.mono fun _ _ h => h.elim⟩
end Go.Proofs.Ytcencpkoimahbaa

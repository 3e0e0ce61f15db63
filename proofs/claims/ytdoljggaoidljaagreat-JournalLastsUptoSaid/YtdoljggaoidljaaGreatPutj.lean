/- The contracts of the journal's small calls: Next, Safe, Down, room, burn. -/
import Derived.Test.YtdoljggaoidljaaGreatOpenj
namespace Go.Proofs.YtdoljggaoidljaaGreat
open Go.RowKit

theorem mem_foot' {w : World} {b : Nat} {r : Option Nat} {m : Mm} (h : Mem w b r m) (j : Nat) (hj : Foot b r j) : j < w.heap.size := by
  rcases hj with rfl | hj
  · exact h.blt
  · exact h.lt j hj
/-- a journal's block -/
abbrev Jb (w : World) (jb : Nat) (o : Option (List UInt8)) (mb nth first next stop : Nat) (lost : Bool) : Prop := Is w jb 47 (jCells o mb nth first next stop lost)
theorem jb_cells {w : World} {jb : Nat} {o : Option (List UInt8)} {mb nth first next stop : Nat} {lost : Bool} (h : Jb w jb o mb nth first next stop lost) :
    w.cell? ⟨jb, 0, none⟩ = some (.string (safeT o)) ∧ w.cell? ⟨jb, 1, none⟩ = some (.bool o.isSome) ∧ w.cell? ⟨jb, 2, none⟩ = some (.pointer (some ⟨mb, 0, none⟩)) ∧ w.cell? ⟨jb, 3, none⟩ = some (.int .i64 (nth : Int)) ∧ w.cell? ⟨jb, 4, none⟩ = some (.int .i64 (first : Int)) ∧ w.cell? ⟨jb, 5, none⟩ = some (.int .i64 (next : Int)) ∧ w.cell? ⟨jb, 6, none⟩ = some (.int .i64 (stop : Int)) ∧ w.cell? ⟨jb, 7, none⟩ = some (.bool lost) ∧ ∀ i, w.frozen? ⟨jb, i, none⟩ = false :=
  ⟨h.cell 0, h.cell 1, h.cell 2, h.cell 3, h.cell 4, h.cell 5, h.cell 6, h.cell 7, h.frozen⟩
section
variable {w : World} {jb mb nth first next stop : Nat} {o : Option (List UInt8)} {lost : Bool} {r : Option Nat} {m : Mm}
theorem nextj_any (h : Jb w jb o mb nth first next stop lost) : Calls Tryz.prog 13 #[.pointer (some ⟨jb, 0, none⟩)] w fun e w' => e = .returned (.int .i64 (next : Int)) ∧ w = w' := by
  obtain ⟨_, _, _, _, _, c5, _⟩ := jb_cells h
  clear h
  go_enter Tryz.func13, Tryz.ntmps13
  go_wp2
  go_ret
  exact ⟨rfl, rfl⟩
theorem safej_any (h : Jb w jb o mb nth first next stop lost) : Calls Tryz.prog 12 #[.pointer (some ⟨jb, 0, none⟩)] w fun e w' => e = .returned (.tuple #[.string (safeT o), .bool o.isSome]) ∧ Fr (fun _ => False) w w' := by
  obtain ⟨c0, c1, _⟩ := jb_cells h
  have x0 := cell_fro c0
  have x1 := cell_fro c1
  clear h c0 c1
  go_enter Tryz.func12, Tryz.ntmps12
  go_wp2
  refine region_fro (by kernel_rfl) (by kernel_rfl) ?_
  repeat (go_big_quiet_step (fail))
  refine wpQuiet_nil ?_
  rintro _ ⟨⟨w4, f4⟩, rfl⟩
  go_wp2
  go_ret2
  exact ⟨rfl, f4⟩
theorem downj_any (h : Jb w jb o mb nth first next stop lost) (hM : Mem w mb r m) : Calls Tryz.prog 22 #[.pointer (some ⟨jb, 0, none⟩)] w fun e w' => e = .returned (.bool (lost || m.down)) ∧ Fr (fun _ => False) w w' := by
  obtain ⟨_, _, c2, _, _, _, _, c7, _⟩ := jb_cells h
  have KD := down_any hM
  generalize m.down = d at *
  clear h hM
  cases lost
  · go_enter Tryz.func22, Tryz.ntmps22
    go_wp2_with (go_at_call 15; refine KD.mono ?_; rintro e w' ⟨rfl, rfl⟩)
    go_ret
    exact ⟨rfl, Fr.refl _ _⟩
  · go_enter Tryz.func22, Tryz.ntmps22
    go_wp2
    go_ret
    exact ⟨rfl, Fr.refl _ _⟩
theorem room_any (h : Jb w jb o mb nth first next stop lost) (hM : Mem w mb r m) (hn : nth ≤ 4294967296) (hs : stop ≤ 4096) (s : ByteArray) (hz : s.size ≤ 5000) :
    Calls Tryz.prog 35 #[.pointer (some ⟨jb, 0, none⟩), .string s] w fun e w' => e = .returned (.bool (decide (m.bare ((nth % 24 : Nat) : Int) ≤ stop) && decide (stop + s.size ≤ 4096))) ∧ Fr (fun _ => False) w w' := by
  obtain ⟨_, _, c2, c3, _, _, c6, _, _⟩ := jb_cells h
  have x2 := cell_fro c2
  have x3 := cell_fro c3
  have x6 := cell_fro c6
  have KP : ∀ u : Fro w, Calls Tryz.prog 30 #[.int .i64 (nth : Int)] u.w fun e w' => e = .returned (.int .i64 ((nth % 24 : Nat) : Int)) ∧ u.w = w' := fun u => pageOf_any nth (by omega) u.w
  have KB : ∀ u : Fro w, Calls Tryz.prog 53 #[.pointer (some ⟨mb, 0, none⟩), .int .i64 ((nth % 24 : Nat) : Int)] u.w fun e w' => e = .returned (.int .i64 (m.bare ((nth % 24 : Nat) : Int) : Nat)) ∧ u.w = w' := fun u => bare_any (hM.none u.f) _ (by omega) (by omega)
  generalize nth % 24 = pn at *
  generalize m.bare (pn : Int) = bn at *
  have d2 : decide ((stop : Int) + (s.size : Int) ≤ 4096) = decide (stop + s.size ≤ 4096) := by
    by_cases q : stop + s.size ≤ 4096
    · rw [decide_eq_true q, decide_eq_true (by omega)]
    · rw [decide_eq_false q, decide_eq_false (by omega)]
  generalize decide (stop + s.size ≤ 4096) = b2 at *
  clear h hM c2 c3 c6
  by_cases q : bn ≤ stop
  · have d1 : decide ((bn : Int) ≤ (stop : Int)) = true := decide_eq_true (by omega)
    rw [decide_eq_true q, Bool.true_and]
    go_enter Tryz.func35, Tryz.ntmps35
    go_wp2
    refine region_fro (by kernel_rfl) (by kernel_rfl) ?_
    repeat (go_big_quiet_step (first | (go_at_call 30; with_reducible exact call_fro_same (KP _)) | (go_at_call 53; with_reducible exact call_fro_same (KB _))))
    refine wpQuiet_nil ?_
    rintro _ ⟨⟨w4, f4⟩, rfl⟩
    go_wp2
    go_ret
    exact ⟨rfl, f4⟩
  · have d1 : decide ((bn : Int) ≤ (stop : Int)) = false := decide_eq_false (by omega)
    rw [decide_eq_false q, Bool.false_and]
    go_enter Tryz.func35, Tryz.ntmps35
    go_wp2
    refine region_fro (by kernel_rfl) (by kernel_rfl) ?_
    repeat (go_big_quiet_step (first | (go_at_call 30; with_reducible exact call_fro_same (KP _)) | (go_at_call 53; with_reducible exact call_fro_same (KB _))))
    refine wpQuiet_nil ?_
    rintro _ ⟨⟨w4, f4⟩, rfl⟩
    go_wp2
    go_ret
    exact ⟨rfl, f4⟩
set_option maxRecDepth 10000 in
set_option maxHeartbeats 4000000 in
theorem burnj_any (h : Jb w jb o mb nth first next stop lost) (hM : Mem w mb r m) (hj : ¬ Foot mb r jb) (hk : m.acts < 4611686018427387904) (hn : nth ≤ 4294967296) (hs : stop ≤ 4096) (s : ByteArray) (hz : s.size ≤ 5000) :
    Calls Tryz.prog 37 #[.pointer (some ⟨jb, 0, none⟩), .string s] w fun e w' => e = .returned (.int .i64 (m.burnE ((nth % 24 : Nat) : Int) stop (bytesOf s) : Nat)) ∧ Mem w' mb r (m.burnM ((nth % 24 : Nat) : Int) stop (bytesOf s)) ∧ Jb w' jb o mb nth first next (if m.burnE ((nth % 24 : Nat) : Int) stop (bytesOf s) = 0 then stop + s.size else stop) lost ∧ Fr (fun j => Foot mb r j ∨ j = jb) w w' := by
  obtain ⟨_, _, c2, c3, _, _, c6, _, cf⟩ := jb_cells h
  have hjl := h.lt
  have KP := fun W => pageOf_any nth (by omega) W
  have hbl := bytesOf_length s
  have hjn : jn [s] = bytesOf s := by show bytesOf s ++ [] = _; rw [List.append_nil]
  have f1 := ((Fr.refl (fun _ => False) w).drew).alloc (.cells #[.string s] 9)
  have KB := burn_any (hM.none f1) hk ((nth % 24 : Nat) : Int) stop (by omega) (by omega) (by omega) (by omega) (A := some ⟨w.drew.heap.size, 0, none⟩) (c := 1) (xs := [s]) (one_rd w.drew (.string s) 9) (fun g hg e => by
    have e' : w.drew.heap.size = g := by injection hg
    have := mem_foot' (hM.none (Fr.refl (fun _ => False) w).drew) g e
    omega) (by simp) (by simp) (by rw [hjn, hbl]; omega)
  rw [hjn] at KB
  have s0 : w.drew.cell? ⟨jb, 2, none⟩ = some (.pointer (some ⟨mb, 0, none⟩)) ∧ w.drew.cell? ⟨jb, 3, none⟩ = some (.int .i64 (nth : Int)) ∧ w.drew.cell? ⟨jb, 6, none⟩ = some (.int .i64 (stop : Int)) := ⟨c2, c3, c6⟩
  have al : ∀ (ob : Obj) (i : Nat), (w.drew.alloc ob).cell? ⟨jb, i, none⟩ = w.drew.cell? ⟨jb, i, none⟩ := fun ob i => ((Fr.refl (fun _ => False) w.drew).alloc ob).cell (p := ⟨jb, i, none⟩) hjl id
  have HJ : Hid (Jb (w.drew.alloc (.cells #[.string s] 9)) jb o mb nth first next stop lost) := Lib.hid (h.fr f1 id)
  have HF1 := Lib.hid f1
  have HJF := Lib.hid hj
  clear h hM c2 c3 c6 cf hbl hjn f1 hj hk
  generalize nth % 24 = pn at *
  obtain ⟨eb, heb⟩ : ∃ eb, eb = m.burnE (pn : Int) stop (bytesOf s) := ⟨_, rfl⟩
  rw [← heb] at KB ⊢
  have HEB := Lib.hid heb
  clear heb
  go_enter Tryz.func37, Tryz.ntmps37
  go_wp2
  go_region_held3 (fun W => W.cell? ⟨jb, 2, none⟩ = some (.pointer (some ⟨mb, 0, none⟩)) ∧ W.cell? ⟨jb, 3, none⟩ = some (.int .i64 (nth : Int)) ∧ W.cell? ⟨jb, 6, none⟩ = some (.int .i64 (stop : Int))) (first | exact s0 | exact ⟨(al _ 2).trans s0.1, (al _ 3).trans s0.2.1, (al _ 6).trans s0.2.2⟩ | exact s1) (first | (go_at_call 30; refine (KP _).mono ?_; rintro e w' ⟨rfl, rfl⟩) | (go_at_call 56; refine KB.mono ?_; rintro e w2 ⟨rfl, M2, F2⟩; have j2 := HJ.out.fr F2 HJF.out; have s1 : w2.cell? ⟨jb, 2, none⟩ = some (.pointer (some ⟨mb, 0, none⟩)) ∧ w2.cell? ⟨jb, 3, none⟩ = some (.int .i64 (nth : Int)) ∧ w2.cell? ⟨jb, 6, none⟩ = some (.int .i64 (stop : Int)) := ⟨j2.cell 2, j2.cell 3, j2.cell 6⟩))
  all_goals
    have j2f := j2.frozen
    have c6 := s1.2.2
    have HJ2 := Lib.hid j2
    have HM2 := Lib.hid M2
    have HF2 := Lib.hid ((HF1.out.mono fun _ _ h => h.elim).trans (S := fun j => Foot mb r j ∨ j = jb) F2 fun _ _ h => .inl h)
    have hjm : jb ≠ mb := fun e => HJF.out (.inl e)
    have hjr : ∀ k, r = some k → k ≠ jb := fun k hk e => HJF.out (.inr (by rw [hk, e]))
    clear s1 j2 M2 F2 al s0 KP KB
    by_cases he : eb = 0
    · have q1 : ((eb : Int) == 0) = true := by rw [he]; rfl
      have HE := Lib.hid he
      clear he
      go_wp2
      go_ret
      have f9 := (Fr.refl (fun j => j = jb) w2).setCell (p := ⟨jb, 6, none⟩) (.inl rfl) (.int .i64 ((stop : Int) + (s.size : Int)))
      refine ⟨rfl, HM2.out.fr f9 (fun e => hjm e.symm) hjr, ?_, HF2.out.trans f9 fun _ _ e => .inr e⟩
      have := HJ2.out.set 6 (.int .i64 ((stop : Int) + (s.size : Int)))
      exact this
    · have q1 : ((eb : Int) == 0) = false := by simpa using he
      have HE := Lib.hid he
      clear he
      go_wp2
      go_ret
      refine ⟨rfl, HM2.out, ?_, HF2.out⟩
      exact HJ2.out
end
end Go.Proofs.YtdoljggaoidljaaGreat

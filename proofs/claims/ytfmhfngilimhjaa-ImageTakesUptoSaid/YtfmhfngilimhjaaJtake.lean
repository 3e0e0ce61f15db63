/- The contract of the document's own Take (package ballastref09), with all that it leaves. -/
import Derived.Test.YtfmhfngilimhjaaKo
import Derived.Deep.RegionLaw
namespace Go.Proofs.Ytfmhfngilimhjaa
open Go.RowKit Li

/-- The document's receiver lies at block b, the row of its numbers is v. -/
def Mx (w : World) (base b n : Nat) (v : Value) (r : R) : Prop := ∃ (ns : List Int), r = toR r.peer r.age r.last ns ∧ ns.length ≤ n ∧ Is w b 106 #[.int .i64 r.peer, .int .i64 r.age, .int .i64 r.last, v] ∧ w.ownsRow base 3 1 v ns.length (ns.map (Value.int .i64))
theorem Mx.mv {w : World} {base b n : Nat} {v : Value} {r : R} (h : Mx w base b n v r) : Mv w base b n r := by
  obtain ⟨ns, h1, h2, h3, h4⟩ := h
  exact ⟨ns, v, h1, h2, h3, h4⟩
theorem Mx.fr {w w1 : World} {base b n : Nat} {v : Value} {r : R} {S : Nat → Prop} (h : Mx w base b n v r) (f : Fr S w w1) (hb : ¬ S b) (hv : ∀ k, v.ownBlock = some k → ¬ S k) : Mx w1 base b n v r := by
  obtain ⟨ns, h1, h2, h3, h4⟩ := h
  exact ⟨ns, h1, h2, h3.fr f hb, own_fr h4 f hv⟩
theorem Mx.lt {w : World} {base b n : Nat} {v : Value} {r : R} (h : Mx w base b n v r) : b < w.heap.size ∧ ∀ k, v.ownBlock = some k → base ≤ k ∧ k < w.heap.size := by
  obtain ⟨ns, h1, h2, h3, h4⟩ := h
  exact ⟨h3.lt, fun k hk => World.ownsRow.lt h4 k hk⟩
theorem Mx.mono {w : World} {base b n n' : Nat} {v : Value} {r : R} (h : Mx w base b n v r) (hn : n ≤ n') : Mx w base b n' v r := by
  obtain ⟨ns, h1, h2, h3⟩ := h
  exact ⟨ns, h1, Nat.le_trans h2 hn, h3⟩

set_option maxRecDepth 100000 in
set_option maxHeartbeats 4000000 in
theorem rtakex {w : World} {base b n : Nat} {v : Value} {r : R} (h : Mx w base b n v r) (hbb : base ≤ b) (hn : n ≤ 5864062014805) (now : Int) (s : ByteArray) (hnow : now ≤ 9223372036854775807) (hs : s.size ≤ 140737488355328) :
    Calls Try.prog 44 #[.pointer (some ⟨b, 0, none⟩), .int .i64 now, .string s] w fun e w' => e = .returned (.tuple #[.string ⟨(r.take now (readL (bytesOf s))).1.toArray⟩, .int .i64 (r.take now (readL (bytesOf s))).2.1]) ∧ ∃ v', Mx w' base b (n + 1) v' (r.take now (readL (bytesOf s))).2.2 ∧ Fr (fun k => k = b ∨ v.ownBlock = some k) w w' ∧ ∀ k, v'.ownBlock = some k → v.ownBlock = some k ∨ w.heap.size ≤ k := by
  have KR := rread_any s hs w
  have hbd := read_bd (l := bytesOf s)
  generalize readL (bytesOf s) = t at *
  simp only [saidV] at KR
  obtain ⟨ns, h1, h2, h3, h4⟩ := h
  obtain ⟨A, c, rfl, _, _⟩ := own_form h4
  generalize r.peer = pe at *
  generalize r.age = ag at *
  generalize r.last = la at *
  subst h1
  by_cases he : t.e = 0
  · obtain ⟨_, _, _, _, hst, _, _⟩ := hbd he
    clear hbd
    have hrf : (toR pe ag la ns).refuse now t.p t.s = if t.p ≠ pe then 16 else if now < t.s then 19 else if ag < now - t.s then 17 else if t.s ≤ la then 18 else 0 := rfl
    have HTT := fun k => Lib.hid (toR_take (pe := pe) (ag := ag) (la := la) (now := now) (ns := ns) he k)
    have HTN := fun k => Lib.hid (take_no (r := toR pe ag la ns) (now := now) he k)
    by_cases q1 : t.p ≠ pe
    · have HV : Hid ((toR pe ag la ns).take now t = ([], 16, toR pe ag la ns)) := Lib.hid (by have := (HTN (by rw [hrf, if_pos q1]; decide)).out; rw [hrf, if_pos q1] at this; exact this)
      have hc1 : (t.p != pe) = true := by simpa using q1
      have hc2 := trivial
      have hc3 := trivial
      have hc4 := trivial
      clear HTT HTN q1
      have H3 := Lib.hid h3
      have H4 := Lib.hid h4
      have h3b := h3.lt
      obtain ⟨p, m, st, x, e1⟩ := t
      simp only at KR he hst hc1 hc2 hc3 hc4 HV
      subst he
      clear h3 h4 hrf
      go_enter Try.func44, Try.ntmps44
      go_wp2_with fail
      refine KR.mono ?_
      rintro e w1 ⟨rfl, f1⟩
      obtain ⟨g, hg⟩ : ∃ g, g = w1.heap.size := ⟨_, rfl⟩
      have iS : Is (w1.alloc (.cells #[.int .i64 p, .int .i64 m, .int .i64 st, .string ⟨x.toArray⟩] 121)) w1.heap.size 121 #[.int .i64 p, .int .i64 m, .int .i64 st, .string ⟨x.toArray⟩] := Is.new w1 _ _
      rw [← hg] at iS
      have HG : Hid (w.heap.size ≤ g) := Lib.hid (by have := f1.size; omega)
      have HF1 := Lib.hid (f1.alloc (.cells #[.int .i64 p, .int .i64 m, .int .i64 st, .string ⟨x.toArray⟩] 121))
      clear KR f1
      go_wp2_with fail
      rw [← hg]
      clear hg
      generalize w1.alloc (.cells #[.int .i64 p, .int .i64 m, .int .i64 st, .string ⟨x.toArray⟩] 121) = w2 at *
      have i2 := H3.out.fr HF1.out id
      go_wp2_with fail
      have c_gp := cell_fro (iS.cell 0 : w2.cell? ⟨g, 0, none⟩ = some _)
      have c_bp := cell_fro (i2.cell 0 : w2.cell? ⟨b, 0, none⟩ = some _)
      refine region_fro (by kernel_rfl) (by kernel_rfl) ?_
      repeat (go_big_quiet_step (fail))
      refine wpQuiet_nil ?_
      rintro w3 ⟨⟨w9, f3⟩, hww⟩
      replace hww : w3 = w9 := hww
      subst hww
      clear c_gp c_bp
      replace iS := iS.fr f3 id
      replace i2 := i2.fr f3 id
      have HF3 := Lib.hid (HF1.out.trans f3 fun _ _ h => h)
      clear HF1 f3
      clear w2
      have HF1 := HF3
      clear HF3
      obtain ⟨w2, hww⟩ : ∃ w2, w2 = w3 := ⟨_, rfl⟩
      subst hww
      clear h3b
      go_wp2_with fail
      go_ret2
      rw [HV.out]
      exact ⟨rfl, .slice A ns.length c, ⟨ns, rfl, by omega, H3.out.fr HF1.out id, own_fr H4.out HF1.out fun _ _ => id⟩, HF1.out.mono fun _ _ h => h.elim, fun _ h => .inl h⟩
    · skip
      by_cases q2 : now < t.s
      · have HV : Hid ((toR pe ag la ns).take now t = ([], 19, toR pe ag la ns)) := Lib.hid (by have := (HTN (by rw [hrf, if_neg q1, if_pos q2]; decide)).out; rw [hrf, if_neg q1, if_pos q2] at this; exact this)
        have hc1 : (t.p != pe) = false := by simpa using q1
        have hc2 : decide (now < t.s) = true := decide_eq_true q2
        have hc3 := trivial
        have hc4 := trivial
        clear HTT HTN q1 q2
        have H3 := Lib.hid h3
        have H4 := Lib.hid h4
        have h3b := h3.lt
        obtain ⟨p, m, st, x, e1⟩ := t
        simp only at KR he hst hc1 hc2 hc3 hc4 HV
        subst he
        clear h3 h4 hrf
        go_enter Try.func44, Try.ntmps44
        go_wp2_with fail
        refine KR.mono ?_
        rintro e w1 ⟨rfl, f1⟩
        obtain ⟨g, hg⟩ : ∃ g, g = w1.heap.size := ⟨_, rfl⟩
        have iS : Is (w1.alloc (.cells #[.int .i64 p, .int .i64 m, .int .i64 st, .string ⟨x.toArray⟩] 121)) w1.heap.size 121 #[.int .i64 p, .int .i64 m, .int .i64 st, .string ⟨x.toArray⟩] := Is.new w1 _ _
        rw [← hg] at iS
        have HG : Hid (w.heap.size ≤ g) := Lib.hid (by have := f1.size; omega)
        have HF1 := Lib.hid (f1.alloc (.cells #[.int .i64 p, .int .i64 m, .int .i64 st, .string ⟨x.toArray⟩] 121))
        clear KR f1
        go_wp2_with fail
        rw [← hg]
        clear hg
        generalize w1.alloc (.cells #[.int .i64 p, .int .i64 m, .int .i64 st, .string ⟨x.toArray⟩] 121) = w2 at *
        have i2 := H3.out.fr HF1.out id
        go_wp2_with fail
        have c_gp := cell_fro (iS.cell 0 : w2.cell? ⟨g, 0, none⟩ = some _)
        have c_bp := cell_fro (i2.cell 0 : w2.cell? ⟨b, 0, none⟩ = some _)
        refine region_fro (by kernel_rfl) (by kernel_rfl) ?_
        repeat (go_big_quiet_step (fail))
        refine wpQuiet_nil ?_
        rintro w3 ⟨⟨w9, f3⟩, hww⟩
        replace hww : w3 = w9 := hww
        subst hww
        clear c_gp c_bp
        replace iS := iS.fr f3 id
        replace i2 := i2.fr f3 id
        have HF3 := Lib.hid (HF1.out.trans f3 fun _ _ h => h)
        clear HF1 f3
        clear w2
        have HF1 := HF3
        clear HF3
        obtain ⟨w2, hww⟩ : ∃ w2, w2 = w3 := ⟨_, rfl⟩
        subst hww
        have g2 : w2.cell? ⟨g, 2, none⟩ = some (.int .i64 st) := iS.cell 2
        clear h3b
        go_wp2_with fail
        go_ret2
        rw [HV.out]
        exact ⟨rfl, .slice A ns.length c, ⟨ns, rfl, by omega, H3.out.fr HF1.out id, own_fr H4.out HF1.out fun _ _ => id⟩, HF1.out.mono fun _ _ h => h.elim, fun _ h => .inl h⟩
      · skip
        by_cases q3 : ag < now - t.s
        · have HV : Hid ((toR pe ag la ns).take now t = ([], 17, toR pe ag la ns)) := Lib.hid (by have := (HTN (by rw [hrf, if_neg q1, if_neg q2, if_pos q3]; decide)).out; rw [hrf, if_neg q1, if_neg q2, if_pos q3] at this; exact this)
          have hc1 : (t.p != pe) = false := by simpa using q1
          have hc2 : decide (now < t.s) = false := decide_eq_false q2
          have hc3 : ag < now - t.s := q3
          have hc4 := trivial
          clear HTT HTN q1 q2 q3
          have H3 := Lib.hid h3
          have H4 := Lib.hid h4
          have h3b := h3.lt
          obtain ⟨p, m, st, x, e1⟩ := t
          simp only at KR he hst hc1 hc2 hc3 hc4 HV
          subst he
          clear h3 h4 hrf
          go_enter Try.func44, Try.ntmps44
          go_wp2_with fail
          refine KR.mono ?_
          rintro e w1 ⟨rfl, f1⟩
          obtain ⟨g, hg⟩ : ∃ g, g = w1.heap.size := ⟨_, rfl⟩
          have iS : Is (w1.alloc (.cells #[.int .i64 p, .int .i64 m, .int .i64 st, .string ⟨x.toArray⟩] 121)) w1.heap.size 121 #[.int .i64 p, .int .i64 m, .int .i64 st, .string ⟨x.toArray⟩] := Is.new w1 _ _
          rw [← hg] at iS
          have HG : Hid (w.heap.size ≤ g) := Lib.hid (by have := f1.size; omega)
          have HF1 := Lib.hid (f1.alloc (.cells #[.int .i64 p, .int .i64 m, .int .i64 st, .string ⟨x.toArray⟩] 121))
          clear KR f1
          go_wp2_with fail
          rw [← hg]
          clear hg
          generalize w1.alloc (.cells #[.int .i64 p, .int .i64 m, .int .i64 st, .string ⟨x.toArray⟩] 121) = w2 at *
          have i2 := H3.out.fr HF1.out id
          have hfr : freshB now st ag = false := by unfold freshB; rw [decide_eq_false (show ¬ now - st ≤ ag by omega), Bool.and_false, Bool.and_false]
          go_wp2_with fail
          have c_gp := cell_fro (iS.cell 0 : w2.cell? ⟨g, 0, none⟩ = some _)
          have c_bp := cell_fro (i2.cell 0 : w2.cell? ⟨b, 0, none⟩ = some _)
          refine region_fro (by kernel_rfl) (by kernel_rfl) ?_
          repeat (go_big_quiet_step (fail))
          refine wpQuiet_nil ?_
          rintro w3 ⟨⟨w9, f3⟩, hww⟩
          replace hww : w3 = w9 := hww
          subst hww
          clear c_gp c_bp
          replace iS := iS.fr f3 id
          replace i2 := i2.fr f3 id
          have HF3 := Lib.hid (HF1.out.trans f3 fun _ _ h => h)
          clear HF1 f3
          clear w2
          have HF1 := HF3
          clear HF3
          obtain ⟨w2, hww⟩ : ∃ w2, w2 = w3 := ⟨_, rfl⟩
          subst hww
          have g2 : w2.cell? ⟨g, 2, none⟩ = some (.int .i64 st) := iS.cell 2
          go_wp2_with fail
          clear g2
          have KF := fun (u : Fro w2) => (fresh_any now st ag u.w hnow hst).mono fun e w' (k : e = .returned (.bool (freshB now st ag)) ∧ w' = u.w) => (⟨k.1, k.2.symm⟩ : e = .returned (.bool (freshB now st ag)) ∧ u.w = w')
          rw [hfr] at KF
          have c_gs := cell_fro (iS.cell 2 : w2.cell? ⟨g, 2, none⟩ = some _)
          have c_ba := cell_fro (i2.cell 1 : w2.cell? ⟨b, 1, none⟩ = some _)
          refine region_fro (by kernel_rfl) (by kernel_rfl) ?_
          repeat (go_big_quiet_step (first | (go_at_call 74; with_reducible exact call_fro_same (KF _))))
          refine wpQuiet_nil ?_
          rintro w3 ⟨⟨w9, f3⟩, hww⟩
          replace hww : w3 = w9 := hww
          subst hww
          clear c_gs c_ba
          clear KF
          replace iS := iS.fr f3 id
          replace i2 := i2.fr f3 id
          have HF3 := Lib.hid (HF1.out.trans f3 fun _ _ h => h)
          clear HF1 f3
          clear w2
          have HF1 := HF3
          clear HF3
          obtain ⟨w2, hww⟩ : ∃ w2, w2 = w3 := ⟨_, rfl⟩
          subst hww
          clear h3b
          go_wp2_with fail
          go_ret2
          rw [HV.out]
          exact ⟨rfl, .slice A ns.length c, ⟨ns, rfl, by omega, H3.out.fr HF1.out id, own_fr H4.out HF1.out fun _ _ => id⟩, HF1.out.mono fun _ _ h => h.elim, fun _ h => .inl h⟩
        · skip
          by_cases q4 : t.s ≤ la
          · have HV : Hid ((toR pe ag la ns).take now t = ([], 18, toR pe ag la ns)) := Lib.hid (by have := (HTN (by rw [hrf, if_neg q1, if_neg q2, if_neg q3, if_pos q4]; decide)).out; rw [hrf, if_neg q1, if_neg q2, if_neg q3, if_pos q4] at this; exact this)
            have hc1 : (t.p != pe) = false := by simpa using q1
            have hc2 : decide (now < t.s) = false := decide_eq_false q2
            have hc3 : ¬ ag < now - t.s := q3
            have hc4 : decide (t.s ≤ la) = true := decide_eq_true q4
            clear HTT HTN q1 q2 q3 q4
            have H3 := Lib.hid h3
            have H4 := Lib.hid h4
            have h3b := h3.lt
            obtain ⟨p, m, st, x, e1⟩ := t
            simp only at KR he hst hc1 hc2 hc3 hc4 HV
            subst he
            clear h3 h4 hrf
            go_enter Try.func44, Try.ntmps44
            go_wp2_with fail
            refine KR.mono ?_
            rintro e w1 ⟨rfl, f1⟩
            obtain ⟨g, hg⟩ : ∃ g, g = w1.heap.size := ⟨_, rfl⟩
            have iS : Is (w1.alloc (.cells #[.int .i64 p, .int .i64 m, .int .i64 st, .string ⟨x.toArray⟩] 121)) w1.heap.size 121 #[.int .i64 p, .int .i64 m, .int .i64 st, .string ⟨x.toArray⟩] := Is.new w1 _ _
            rw [← hg] at iS
            have HG : Hid (w.heap.size ≤ g) := Lib.hid (by have := f1.size; omega)
            have HF1 := Lib.hid (f1.alloc (.cells #[.int .i64 p, .int .i64 m, .int .i64 st, .string ⟨x.toArray⟩] 121))
            clear KR f1
            go_wp2_with fail
            rw [← hg]
            clear hg
            generalize w1.alloc (.cells #[.int .i64 p, .int .i64 m, .int .i64 st, .string ⟨x.toArray⟩] 121) = w2 at *
            have i2 := H3.out.fr HF1.out id
            have hfr : freshB now st ag = true := by unfold freshB; rw [decide_eq_true (show 0 ≤ now by have := of_decide_eq_false hc2; omega), decide_eq_true (show st ≤ now by have := of_decide_eq_false hc2; omega), decide_eq_true (show now - st ≤ ag by omega)]; rfl
            go_wp2_with fail
            have c_gp := cell_fro (iS.cell 0 : w2.cell? ⟨g, 0, none⟩ = some _)
            have c_bp := cell_fro (i2.cell 0 : w2.cell? ⟨b, 0, none⟩ = some _)
            refine region_fro (by kernel_rfl) (by kernel_rfl) ?_
            repeat (go_big_quiet_step (fail))
            refine wpQuiet_nil ?_
            rintro w3 ⟨⟨w9, f3⟩, hww⟩
            replace hww : w3 = w9 := hww
            subst hww
            clear c_gp c_bp
            replace iS := iS.fr f3 id
            replace i2 := i2.fr f3 id
            have HF3 := Lib.hid (HF1.out.trans f3 fun _ _ h => h)
            clear HF1 f3
            clear w2
            have HF1 := HF3
            clear HF3
            obtain ⟨w2, hww⟩ : ∃ w2, w2 = w3 := ⟨_, rfl⟩
            subst hww
            have g2 : w2.cell? ⟨g, 2, none⟩ = some (.int .i64 st) := iS.cell 2
            go_wp2_with fail
            clear g2
            have KF := fun (u : Fro w2) => (fresh_any now st ag u.w hnow hst).mono fun e w' (k : e = .returned (.bool (freshB now st ag)) ∧ w' = u.w) => (⟨k.1, k.2.symm⟩ : e = .returned (.bool (freshB now st ag)) ∧ u.w = w')
            rw [hfr] at KF
            have c_gs := cell_fro (iS.cell 2 : w2.cell? ⟨g, 2, none⟩ = some _)
            have c_ba := cell_fro (i2.cell 1 : w2.cell? ⟨b, 1, none⟩ = some _)
            refine region_fro (by kernel_rfl) (by kernel_rfl) ?_
            repeat (go_big_quiet_step (first | (go_at_call 74; with_reducible exact call_fro_same (KF _))))
            refine wpQuiet_nil ?_
            rintro w3 ⟨⟨w9, f3⟩, hww⟩
            replace hww : w3 = w9 := hww
            subst hww
            clear c_gs c_ba
            clear KF
            replace iS := iS.fr f3 id
            replace i2 := i2.fr f3 id
            have HF3 := Lib.hid (HF1.out.trans f3 fun _ _ h => h)
            clear HF1 f3
            clear w2
            have HF1 := HF3
            clear HF3
            obtain ⟨w2, hww⟩ : ∃ w2, w2 = w3 := ⟨_, rfl⟩
            subst hww
            go_wp2_with fail
            have c_gs := cell_fro (iS.cell 2 : w2.cell? ⟨g, 2, none⟩ = some _)
            have c_bl := cell_fro (i2.cell 2 : w2.cell? ⟨b, 2, none⟩ = some _)
            refine region_fro (by kernel_rfl) (by kernel_rfl) ?_
            repeat (go_big_quiet_step (fail))
            refine wpQuiet_nil ?_
            rintro w3 ⟨⟨w9, f3⟩, hww⟩
            replace hww : w3 = w9 := hww
            subst hww
            clear c_gs c_bl
            replace iS := iS.fr f3 id
            replace i2 := i2.fr f3 id
            have HF3 := Lib.hid (HF1.out.trans f3 fun _ _ h => h)
            clear HF1 f3
            clear w2
            have HF1 := HF3
            clear HF3
            obtain ⟨w2, hww⟩ : ∃ w2, w2 = w3 := ⟨_, rfl⟩
            subst hww
            clear h3b
            go_wp2_with fail
            go_ret2
            rw [HV.out]
            exact ⟨rfl, .slice A ns.length c, ⟨ns, rfl, by omega, H3.out.fr HF1.out id, own_fr H4.out HF1.out fun _ _ => id⟩, HF1.out.mono fun _ _ h => h.elim, fun _ h => .inl h⟩
          · skip
            have HV := HTT (by rw [hrf, if_neg q1, if_neg q2, if_neg q3, if_neg q4])
            have hc1 : (t.p != pe) = false := by simpa using q1
            have hc2 : decide (now < t.s) = false := decide_eq_false q2
            have hc3 : ¬ ag < now - t.s := q3
            have hc4 : decide (t.s ≤ la) = false := decide_eq_false q4
            clear HTT HTN q1 q2 q3 q4
            have H3 := Lib.hid h3
            have H4 := Lib.hid h4
            have h3b := h3.lt
            obtain ⟨p, m, st, x, e1⟩ := t
            simp only at KR he hst hc1 hc2 hc3 hc4 HV
            subst he
            clear h3 h4 hrf
            go_enter Try.func44, Try.ntmps44
            go_wp2_with fail
            refine KR.mono ?_
            rintro e w1 ⟨rfl, f1⟩
            obtain ⟨g, hg⟩ : ∃ g, g = w1.heap.size := ⟨_, rfl⟩
            have iS : Is (w1.alloc (.cells #[.int .i64 p, .int .i64 m, .int .i64 st, .string ⟨x.toArray⟩] 121)) w1.heap.size 121 #[.int .i64 p, .int .i64 m, .int .i64 st, .string ⟨x.toArray⟩] := Is.new w1 _ _
            rw [← hg] at iS
            have HG : Hid (w.heap.size ≤ g) := Lib.hid (by have := f1.size; omega)
            have HF1 := Lib.hid (f1.alloc (.cells #[.int .i64 p, .int .i64 m, .int .i64 st, .string ⟨x.toArray⟩] 121))
            clear KR f1
            go_wp2_with fail
            rw [← hg]
            clear hg
            generalize w1.alloc (.cells #[.int .i64 p, .int .i64 m, .int .i64 st, .string ⟨x.toArray⟩] 121) = w2 at *
            have i2 := H3.out.fr HF1.out id
            have hfr : freshB now st ag = true := by unfold freshB; rw [decide_eq_true (show 0 ≤ now by have := of_decide_eq_false hc2; omega), decide_eq_true (show st ≤ now by have := of_decide_eq_false hc2; omega), decide_eq_true (show now - st ≤ ag by omega)]; rfl
            go_wp2_with fail
            have c_gp := cell_fro (iS.cell 0 : w2.cell? ⟨g, 0, none⟩ = some _)
            have c_bp := cell_fro (i2.cell 0 : w2.cell? ⟨b, 0, none⟩ = some _)
            refine region_fro (by kernel_rfl) (by kernel_rfl) ?_
            repeat (go_big_quiet_step (fail))
            refine wpQuiet_nil ?_
            rintro w3 ⟨⟨w9, f3⟩, hww⟩
            replace hww : w3 = w9 := hww
            subst hww
            clear c_gp c_bp
            replace iS := iS.fr f3 id
            replace i2 := i2.fr f3 id
            have HF3 := Lib.hid (HF1.out.trans f3 fun _ _ h => h)
            clear HF1 f3
            clear w2
            have HF1 := HF3
            clear HF3
            obtain ⟨w2, hww⟩ : ∃ w2, w2 = w3 := ⟨_, rfl⟩
            subst hww
            have g2 : w2.cell? ⟨g, 2, none⟩ = some (.int .i64 st) := iS.cell 2
            go_wp2_with fail
            clear g2
            have KF := fun (u : Fro w2) => (fresh_any now st ag u.w hnow hst).mono fun e w' (k : e = .returned (.bool (freshB now st ag)) ∧ w' = u.w) => (⟨k.1, k.2.symm⟩ : e = .returned (.bool (freshB now st ag)) ∧ u.w = w')
            rw [hfr] at KF
            have c_gs := cell_fro (iS.cell 2 : w2.cell? ⟨g, 2, none⟩ = some _)
            have c_ba := cell_fro (i2.cell 1 : w2.cell? ⟨b, 1, none⟩ = some _)
            refine region_fro (by kernel_rfl) (by kernel_rfl) ?_
            repeat (go_big_quiet_step (first | (go_at_call 74; with_reducible exact call_fro_same (KF _))))
            refine wpQuiet_nil ?_
            rintro w3 ⟨⟨w9, f3⟩, hww⟩
            replace hww : w3 = w9 := hww
            subst hww
            clear c_gs c_ba
            clear KF
            replace iS := iS.fr f3 id
            replace i2 := i2.fr f3 id
            have HF3 := Lib.hid (HF1.out.trans f3 fun _ _ h => h)
            clear HF1 f3
            clear w2
            have HF1 := HF3
            clear HF3
            obtain ⟨w2, hww⟩ : ∃ w2, w2 = w3 := ⟨_, rfl⟩
            subst hww
            go_wp2_with fail
            have c_gs := cell_fro (iS.cell 2 : w2.cell? ⟨g, 2, none⟩ = some _)
            have c_bl := cell_fro (i2.cell 2 : w2.cell? ⟨b, 2, none⟩ = some _)
            refine region_fro (by kernel_rfl) (by kernel_rfl) ?_
            repeat (go_big_quiet_step (fail))
            refine wpQuiet_nil ?_
            rintro w3 ⟨⟨w9, f3⟩, hww⟩
            replace hww : w3 = w9 := hww
            subst hww
            clear c_gs c_bl
            replace iS := iS.fr f3 id
            replace i2 := i2.fr f3 id
            have HF3 := Lib.hid (HF1.out.trans f3 fun _ _ h => h)
            clear HF1 f3
            clear w2
            have HF1 := HF3
            clear HF3
            obtain ⟨w2, hww⟩ : ∃ w2, w2 = w3 := ⟨_, rfl⟩
            subst hww
            have HI2 := Lib.hid i2
            have z2 : w2.frozen? ⟨b, 2, none⟩ = false := i2.frozen 2
            have c2 : w2.cell? ⟨b, 2, none⟩ = some (.int .i64 la) := i2.cell 2
            have g2 : w2.cell? ⟨g, 2, none⟩ = some (.int .i64 st) := iS.cell 2
            have hgb : g ≠ b := by have := HG.out; have := h3b; omega
            have i3 : Is (w2.setCell ⟨b, 2, none⟩ (.int .i64 st)) b 106 #[.int .i64 pe, .int .i64 ag, .int .i64 st, .slice A ns.length c] := by
              have := i2.set 2 (.int .i64 st)
              simpa using this
            have iS3 : Is (w2.setCell ⟨b, 2, none⟩ (.int .i64 st)) g 121 #[.int .i64 p, .int .i64 m, .int .i64 st, .string ⟨x.toArray⟩] := iS.far hgb _
            have f23 := (Fr.refl (fun k => k = b) w2).setCell (p := ⟨b, 2, none⟩) (.inl rfl) (.int .i64 st)
            have o3 := own_fr (own_fr H4.out HF1.out fun _ _ => id) f23 (fun k hk e => wide_is_ne (own_fr H4.out HF1.out fun _ _ => id) i2 (by decide) (e ▸ hk))
            have HF3 := Lib.hid ((HF1.out.mono fun _ _ h => h.elim).trans (S := fun k => k = b) f23 fun _ _ h => h)
            clear i2 iS f23 HI2 h3b
            go_wp2_with fail
            generalize w2.setCell ⟨b, 2, none⟩ (.int .i64 st) = w3 at *
            clear z2 c2 g2
            have b3 : w3.cell? ⟨b, 3, none⟩ = some (.slice A ns.length c) := i3.cell 3
            have y3 : w3.frozen? ⟨b, 3, none⟩ = false := i3.frozen 3
            have g1 : w3.cell? ⟨g, 1, none⟩ = some (.int .i64 m) := iS3.cell 1
            have b3a : (w3.alloc (.cells #[.int .i64 m] 3)).cell? ⟨b, 3, none⟩ = some (.slice A ns.length c) := (Is.alloc i3 _).cell 3
            obtain ⟨i0, hi0, hz0, hz1, hz2⟩ := info_parts Try.infoNum
            have hrow : ((w3.alloc (.cells #[.int .i64 m] 3)).drew).ownsRow base 3 1 (.slice A ns.length c) ns.length (ns.map (Value.int .i64)) := own_fr o3 (((Fr.refl (fun _ => False) w3).alloc (.cells #[.int .i64 m] 3)).drew) (fun _ _ => id)
            have hrd : Rd ((w3.alloc (.cells #[.int .i64 m] 3)).drew) (some ⟨w3.heap.size, 0, none⟩) [.int .i64 m] := Rd.one w3.drew (.int .i64 m) 3
            have hbs : base ≤ ((w3.alloc (.cells #[.int .i64 m] 3)).drew).heap.size := by have := i3.lt; simp; omega
            have hns : ns.length ≤ 5864062014805 := by omega
            go_region_law (refine step_append_wide _ rfl (.tmp 58) (.tmp 61) 25 rfl base 3 i0 _ 1 8 Try.underlying25 hi0 hz0 hz1 hz2 rfl (by decide) (.slice A ns.length c) ns.length (ns.map (Value.int .i64)) (by simp [Act.eval]) hrow (some ⟨w3.heap.size, 0, none⟩) 1 1 [.int .i64 m] rfl (by simp [Act.eval]) hrd (by intro u hu; simp at hu; subst hu; rfl) (by unfold maxLen; omega) (by omega) hbs ?_; intro v' w5 hown hg hat; have f5 : Fr (fun k => (Value.slice A ns.length c).ownBlock = some k) ((w3.alloc (.cells #[.int .i64 m] 3)).drew) w5 := (Fr.refl _ _).grown hg fun _ hk => .inl hk; have i5 := (Is.alloc (Is.drew i3) (.cells #[.int .i64 m] 3)).fr f5 (fun hk => wide_is_ne hrow (Is.alloc (Is.drew i3) _) (by decide) hk); have iS5 := (Is.alloc (Is.drew iS3) (.cells #[.int .i64 m] 3)).fr f5 (fun hk => wide_is_ne hrow (Is.alloc (Is.drew iS3) _) (by decide) hk); have b5 : w5.cell? ⟨b, 3, none⟩ = some (.slice A ns.length c) := i5.cell 3; have y5 := i5.frozen 3; have g5 : w5.cell? ⟨g, 3, none⟩ = some (.string ⟨x.toArray⟩) := iS5.cell 3; have HAT := Lib.hid hat; clear hg hat; obtain ⟨A5, c5, hv5, _, _⟩ := own_form hown; subst hv5)
            all_goals
              have i6 : Is (w5.setCell ⟨b, 3, none⟩ (.slice A5 (ns.length + 1) c5)) b 106 #[.int .i64 pe, .int .i64 ag, .int .i64 st, .slice A5 (ns.length + 1) c5] := by
                have := i5.set 3 (.slice A5 (ns.length + 1) c5)
                simpa using this
              have iS6 : Is (w5.setCell ⟨b, 3, none⟩ (.slice A5 (ns.length + 1) c5)) g 121 #[.int .i64 p, .int .i64 m, .int .i64 st, .string ⟨x.toArray⟩] := iS5.far hgb _
              have f36 : Fr (fun k => k = b ∨ (Value.slice A ns.length c).ownBlock = some k) w3 (w5.setCell ⟨b, 3, none⟩ (.slice A5 (ns.length + 1) c5)) := (((((Fr.refl (fun _ => False) w3).alloc (.cells #[.int .i64 m] 3)).drew).mono fun _ _ h => h.elim).trans f5 fun _ _ h => .inr h).setCell (p := ⟨b, 3, none⟩) (.inl (.inl rfl)) _
              have own6 := own_fr hown ((Fr.refl (fun k => k = b) w5).setCell (p := ⟨b, 3, none⟩) (.inl rfl) (.slice A5 (ns.length + 1) c5)) (fun k hk e => wide_is_ne hown i5 (by decide) (e ▸ hk))
              have HF6 := Lib.hid ((HF3.out.mono (S' := fun k => k = b ∨ (Value.slice A ns.length c).ownBlock = some k) fun _ _ h => .inl h).trans f36 fun _ _ h => h)
              have HI6 := Lib.hid i6
              have HO6 := Lib.hid own6
              have g3 : (w5.setCell ⟨b, 3, none⟩ (.slice A5 (ns.length + 1) c5)).cell? ⟨g, 3, none⟩ = some (.string ⟨x.toArray⟩) := iS6.cell 3
              generalize w5.setCell ⟨b, 3, none⟩ (.slice A5 (ns.length + 1) c5) = w6 at *
              clear g5 i6 iS6 i5 iS5 b5 y5 hown f5 f36 own6 i3 iS3 o3 b3 b3a y3 g1 hrow hrd
              go_wp2_with fail
              go_ret2
              rw [HV.out]
              refine ⟨rfl, .slice A5 (ns.length + 1) c5, ⟨ns ++ [m], rfl, by rw [List.length_append]; simp; omega, HI6.out, ?_⟩, HF6.out, fun k hk => ?_⟩
              · have := HO6.out
                rw [List.length_append, List.map_append]
                exact this
              · rcases HAT.out with e | e
                · exact .inl (e ▸ hk)
                · rw [e] at hk
                  injection hk with hk
                  have h1 := HF3.out.size
                  simp at hk
                  exact .inr (by omega)
  · have HT := Lib.hid (take_bad (r := toR pe ag la ns) (now := now) he)
    have hb : (t.e != 0) = true := by simpa using he
    obtain ⟨p, m, st, x, e1⟩ := t
    simp only at KR hb
    have H3 := Lib.hid h3
    have H4 := Lib.hid h4
    clear he h3 h4 hbd
    go_enter Try.func44, Try.ntmps44
    go_wp2_with fail
    refine KR.mono ?_
    rintro e w1 ⟨rfl, f1⟩
    have HF1 := Lib.hid (f1.alloc (.cells #[.int .i64 p, .int .i64 m, .int .i64 st, .string ⟨x.toArray⟩] 121))
    clear KR f1
    go_wp2_with fail
    go_ret2
    rw [HT.out]
    exact ⟨rfl, .slice A ns.length c, ⟨ns, rfl, by omega, H3.out.fr HF1.out id, own_fr H4.out HF1.out fun _ _ => id⟩, HF1.out.mono fun _ _ h => h.elim, fun _ h => .inl h⟩
end Go.Proofs.Ytfmhfngilimhjaa

/- The walk of TopoPlans: which plans are right, and what meets which end, is what the document says. -/
import Derived.Test.YtgommmaipifpaaaLives
import Derived.Test.YtgommmaipifpaaaRcheck
import Derived.Test.YtgommmaipifpaaaTrip
namespace Go.Proofs.Ytgommmaipifpaaa
open Go.RowKit

theorem Try.infoSec : (Try.prog.info? 28).map (fun i => (i.zero, i.size, i.bytes)) = some (some (.agg #[.int .i64 0, .int .i64 0, .int .i64 0]), 3, 24) := by kernel_rfl
theorem Try.infoJo : (Try.prog.info? 30).map (fun i => (i.zero, i.size, i.bytes)) = some (some (.agg #[.int .i64 0, .int .i64 0, .int .i64 0, .int .i64 0]), 4, 32) := by kernel_rfl
theorem cellsS_one (l : List Sec) : ∀ u ∈ cellsS l, u.oneCell' = true := by
  intro u hu
  obtain ⟨s, _, hs⟩ := List.mem_flatMap.1 hu
  simp at hs
  rcases hs with rfl | rfl | rfl <;> rfl
theorem cellsJ_one (l : List Jo) : ∀ u ∈ cellsJ l, u.oneCell' = true := by
  intro u hu
  obtain ⟨s, _, hs⟩ := List.mem_flatMap.1 hu
  simp at hs
  rcases hs with rfl | rfl | rfl | rfl <;> rfl
theorem cellsS_snoc (l : List Sec) (s : Sec) : cellsS (l ++ [s]) = cellsS l ++ [.int .i64 s.kind, .int .i64 s.oc, .int .i64 s.line] := by
  unfold cellsS
  rw [List.flatMap_append]
  rfl
theorem cellsJ_snoc (l : List Jo) (s : Jo) : cellsJ (l ++ [s]) = cellsJ l ++ [.int .i64 s.a, .int .i64 s.ae, .int .i64 s.b, .int .i64 s.be] := by
  unfold cellsJ
  rw [List.flatMap_append]
  rfl
theorem head_secs (g n c : Nat) (h : n + 1 ≤ c) (W : World) : (Instr.slice 22 (.slice (some ⟨g, 0, none⟩) (n + 1) c) none (some (.int .i64 (n : Int))) none).run Try.prog W = .ok (.slice (some ⟨g, 0, none⟩) n c) W := by
  have h1 : (n : Int) ≤ (c : Int) := by omega
  go_simp
theorem head_jos (g n c : Nat) (h : n + 1 ≤ c) (W : World) : (Instr.slice 23 (.slice (some ⟨g, 0, none⟩) (n + 1) c) none (some (.int .i64 (n : Int))) none).run Try.prog W = .ok (.slice (some ⟨g, 0, none⟩) n c) W := by
  have h1 : (n : Int) ≤ (c : Int) := by omega
  go_simp
theorem own_lo {w : World} {e : TypeId} {base size n : Nat} {v : Value} {xs : List Value} (h : w.ownsRow base e size v n xs) : ∀ j, v.ownBlock = some j → base ≤ j := fun j hj => (World.ownsRow.lt h j hj).1

theorem rd_sec0 {w : World} {g : Nat} {l : List Sec} (h : Rd w (some ⟨g, 0, none⟩) (cellsS l)) {j : Nat} (hj : j < l.length) : w.cell? ⟨g, j * 3, none⟩ = some (.int .i64 l[j].kind) ∧ w.cell? ⟨g, j * 3 + 1, none⟩ = some (.int .i64 l[j].oc) ∧ w.cell? ⟨g, j * 3 + 2, none⟩ = some (.int .i64 l[j].line) := by
  obtain ⟨g', o', e, h0, h1, h2⟩ := rd_sec h hj
  injection e with e
  injection e with e1 e2
  subst e1 e2
  rw [Nat.zero_add] at h0 h1 h2
  exact ⟨h0, h1, h2⟩
theorem rd_jo0 {w : World} {g : Nat} {l : List Jo} (h : Rd w (some ⟨g, 0, none⟩) (cellsJ l)) {j : Nat} (hj : j < l.length) : w.cell? ⟨g, j * 4, none⟩ = some (.int .i64 l[j].a) ∧ w.cell? ⟨g, j * 4 + 1, none⟩ = some (.int .i64 l[j].ae) ∧ w.cell? ⟨g, j * 4 + 2, none⟩ = some (.int .i64 l[j].b) ∧ w.cell? ⟨g, j * 4 + 3, none⟩ = some (.int .i64 l[j].be) := by
  obtain ⟨g', o', e, h0, h1, h2, h3⟩ := rd_jo h hj
  injection e with e
  injection e with e1 e2
  subst e1 e2
  rw [Nat.zero_add] at h0 h1 h2 h3
  exact ⟨h0, h1, h2, h3⟩

set_option maxRecDepth 100000 in
set_option maxHeartbeats 16000000 in
theorem plans_walk {A1 A2 : Option Addr} {c1 c2 : Nat} {l : List Sec} {js : List Jo} (s e : Int) (w : World) (h1 : Rd w A1 (cellsS l)) (h2 : Rd w A2 (cellsJ js))
    (hl : l.length * 24 ≤ 140737488351232) (hj : js.length * 32 ≤ 140737488351232) :
    Calls Try.prog 3 #[.agg #[.slice A1 l.length c1, .slice A2 js.length c2], .int .i64 s, .int .i64 e] w fun x w' => x = .returned (.bool true) ∧ Below w.heap.size w w' := by
  have KL := fun w => lives_any w
  obtain ⟨is, his, hsz0, hsz1, hsz2⟩ := info_parts Try.infoSec
  obtain ⟨ij, hij, hjz0, hjz1, hjz2⟩ := info_parts Try.infoJo
  have is0 := Is.new w 25 #[.slice A1 l.length c1, .slice A2 js.length c2]
  have f0 := (Fr.refl (fun _ => False) w).alloc (.cells #[.slice A1 l.length c1, .slice A2 js.length c2] 25)
  go_enter Try.func3, Try.ntmps3
  go_wp2_with fail
  refine (KL _).mono ?_
  clear KL
  rintro x w1 ⟨rfl, f1⟩
  have is1 := is0.fr f1 id
  have g1 := fr_nil f0 f1
  have r1 := h1.fr g1 fun _ _ => id
  have r2 := h2.fr g1 fun _ _ => id
  clear is0 f0 f1 h1 h2
  have ga := (Fr.refl (fun _ => False) w1).alloc (.cells #[] 28)
  have isa := is1.alloc (.cells #[] 28)
  have k0 := isa.cell 0
  have own0 : (w1.alloc (.cells #[] 28)).ownsRow w1.heap.size 28 3 (.slice (some ⟨w1.heap.size, 0, none⟩) 0 0) 0 [] := World.ownsRow_lit w1 #[] 0 (Nat.le_refl _) (by unfold maxLen; omega) rfl
  have hrd := r1.fr ga fun _ _ => id
  go_wp2_with (first
    | (at_builtin
       refine wpList_append_wide _ rfl (.tmp 19) (.tmp 21) 22 rfl w1.heap.size 28 is _ 3 24 Try.underlying22 his hsz0 hsz1 hsz2 rfl (by decide) (.slice (some ⟨w1.heap.size, 0, none⟩) 0 0) 0 [] rfl own0 A1 c1 l.length (cellsS l) (cellsS_length l) rfl hrd (cellsS_one l) (by unfold maxLen; omega) (by omega) (by simp) ?_
       intro v2 w2 own2 gr2 at2
       rw [Nat.zero_add, List.nil_append] at own2
       obtain ⟨A3, c3, rfl, _, _, _, _⟩ := wide_form own2
       have hb2 : w1.heap.size ≤ w2.heap.size := Nat.le_trans (by simp) gr2.size
       have g2 := ga.grown gr2 (fun j hj => .inr (own_lo own0 j hj))
       have own2a := own2.alloc (.cells #[.int .i64 (-7), .int .i64 0, .int .i64 0] 28)
       have g2a := g2.alloc (.cells #[.int .i64 (-7), .int .i64 0, .int .i64 0] 28))
    | (at_builtin
       refine wpList_append_wide _ rfl (.tmp 22) (.tmp 24) 22 rfl w1.heap.size 28 is _ 3 24 Try.underlying22 his hsz0 hsz1 hsz2 rfl (by decide) (.slice A3 l.length c3) l.length (cellsS l) rfl own2a (some ⟨w2.heap.size, 0, none⟩) 1 1 [.int .i64 (-7), .int .i64 0, .int .i64 0] rfl rfl (lit_rd w2 _ _) (by simp [Value.oneCell']) (by unfold maxLen; omega) (by omega) (by simp; omega) ?_
       intro v3 w3 own3 gr3 at3
       rw [show cellsS l ++ [.int .i64 (-7), .int .i64 0, .int .i64 0] = cellsS (l ++ [⟨-7, 0, 0⟩]) from (cellsS_snoc l ⟨-7, 0, 0⟩).symm] at own3
       obtain ⟨A4, c4, rfl, hc4, hm4, ha4, _⟩ := wide_form own3
       obtain ⟨gs, rfl, hgs⟩ := ha4 (by omega)
       have g3 := g2a.grown gr3 (fun j hj => .inr (own_lo own2a j hj))
       clear gr2 gr3 at2 at3 own2 own2a own0 g2 g2a ga isa k0 hrd hb2
       have hb3 := g3.size
       have gb := g3.alloc (.cells #[] 30)
       have isb := is1.fr gb id
       have k1 := isb.cell 1
       have own4 : (w3.alloc (.cells #[] 30)).ownsRow w1.heap.size 30 4 (.slice (some ⟨w3.heap.size, 0, none⟩) 0 0) 0 [] := World.ownsRow_lit w3 #[] 0 hb3 (by unfold maxLen; omega) rfl
       have hrd2 := r2.fr gb fun _ _ => id
       have own3a := own3.alloc (.cells #[] 30))
    | (at_builtin
       refine wpList_append_wide _ rfl (.tmp 26) (.tmp 28) 23 rfl w1.heap.size 30 ij _ 4 32 Try.underlying23 hij hjz0 hjz1 hjz2 rfl (by decide) (.slice (some ⟨w3.heap.size, 0, none⟩) 0 0) 0 [] rfl own4 A2 c2 js.length (cellsJ js) (cellsJ_length js) rfl hrd2 (cellsJ_one js) (by unfold maxLen; omega) (by omega) (by simp; omega) ?_
       intro v4 w4 own5 gr4 at4
       rw [Nat.zero_add, List.nil_append] at own5
       obtain ⟨A5, c5, rfl, _, _, _, _⟩ := wide_form own5
       have g4 := gb.grown gr4 (fun j hj => .inr (own_lo own4 j hj))
       have own3b := wide_fr own3a ((Fr.refl (fun j => (Value.slice (some ⟨w3.heap.size, 0, none⟩) 0 0).ownBlock = some j) _).grown gr4 fun j hj => .inl hj) (fun j hj e => wide_ne own3a own4 (by decide) j hj e)
       have hb4 := g4.size
       have own5a := own5.alloc (.cells #[.int .i64 (-8), .int .i64 0, .int .i64 0, .int .i64 0] 30)
       have own3c := own3b.alloc (.cells #[.int .i64 (-8), .int .i64 0, .int .i64 0, .int .i64 0] 30)
       have g4a := g4.alloc (.cells #[.int .i64 (-8), .int .i64 0, .int .i64 0, .int .i64 0] 30))
    | (at_builtin
       refine wpList_append_wide _ rfl (.tmp 29) (.tmp 31) 23 rfl w1.heap.size 30 ij _ 4 32 Try.underlying23 hij hjz0 hjz1 hjz2 rfl (by decide) (.slice A5 js.length c5) js.length (cellsJ js) rfl own5a (some ⟨w4.heap.size, 0, none⟩) 1 1 [.int .i64 (-8), .int .i64 0, .int .i64 0, .int .i64 0] rfl rfl (lit_rd w4 _ _) (by simp [Value.oneCell']) (by unfold maxLen; omega) (by omega) (by simp; omega) ?_
       intro v5 w5 own6 gr5 at5
       rw [show cellsJ js ++ [.int .i64 (-8), .int .i64 0, .int .i64 0, .int .i64 0] = cellsJ (js ++ [⟨-8, 0, 0, 0⟩]) from (cellsJ_snoc js ⟨-8, 0, 0, 0⟩).symm] at own6
       obtain ⟨A6, c6, rfl, hc6, hm6, ha6, _⟩ := wide_form own6
       obtain ⟨gj, rfl, hgj⟩ := ha6 (by omega)
       have g5 := g4a.grown gr5 (fun j hj => .inr (own_lo own5a j hj))
       have own3d := wide_fr own3c ((Fr.refl (fun j => (Value.slice A5 js.length c5).ownBlock = some j) _).grown gr5 fun j hj => .inl hj) (fun j hj e => wide_ne own3c own5a (by decide) j hj e)
       clear gr4 gr5 at4 at5 own5 own5a own3 own3a own3b own3c own4 g4 g4a gb g3 hb3 hb4 isb k1 hrd2))
  have isp := is1.fr g5 id
  have rds := wide_rd own3d
  have rdj := wide_rd own6
  have rds0 : Rd w5 (some ⟨gs, 0, none⟩) (cellsS l) := by
    rw [cellsS_snoc] at rds
    exact rds.pre
  have rdj0 : Rd w5 (some ⟨gj, 0, none⟩) (cellsJ js) := by
    rw [cellsJ_snoc] at rdj
    exact rdj.pre
  have r15 := r1.fr g5 fun _ _ => id
  have r25 := r2.fr g5 fun _ _ => id
  unfold maxLen at hm4 hm6
  have hhs := head_secs gs l.length c4 hc4
  have hhj := head_jos gj js.length c6 hc6
  have KC := fun w h h' => check_any (A1 := some ⟨gs, 0, none⟩) (A2 := some ⟨gj, 0, none⟩) (c1 := c4) (c2 := c6) (l := l) (js := js) w h h' (by omega) (by omega) hm6
  have KR := fun w h h' => rcheck_any (A1 := A1) (A2 := A2) (c1 := c1) (c2 := c2) (l := l) (js := js) w h h' (by omega) (by omega)
  rw [← check_ref] at KR
  have KN := fun w h => next_any (c := c6) s e w (l := js) (A := some ⟨gj, 0, none⟩) h (by omega)
  have KM := fun w h => rnext_any (c := c2) s e w (l := js) (A := A2) h (by omega)
  generalize errOf (checkB l js) = E at *
  generalize nextS js s e = NS at *
  generalize nextE js s e = NE at *
  generalize nextOk js s e = NO at *
  clear own3d own6 hc4 hc6 hm4 r1 r2 is1 hgs hgj
  have q0 := cell_fro (isp.cell 0)
  have q1 := cell_fro (isp.cell 1)
  have qs := rd_fro rds0
  have qj := rd_fro rdj0
  have q15 := rd_fro r15
  have q25 := rd_fro r25
  refine region_fro (by kernel_rfl) (by kernel_rfl) ?_
  repeat (go_big_quiet_step (first | (go_at_call 11; exact call_fro (KC _ (qs _) (qj _))) | (go_at_call 12; exact call_fro (KR _ (q15 _) (q25 _)))))
  refine wpQuiet_nil ?_
  rintro _ ⟨⟨w6, f6⟩, rfl⟩
  clear q0 q1 qs qj q15 q25 KC KR
  have isp6 := isp.fr f6 id
  have k0 := isp6.cell 0
  have k1 := isp6.cell 1
  go_wp2_with fail
  refine (KN _ (rdj0.fr f6 fun _ _ => id)).mono ?_
  clear KN k0 k1 hhs hhj
  rintro x w7 ⟨rfl, f7⟩
  have g7 := fr_nil f6 f7
  have isp7 := isp.fr g7 id
  have k0 := isp7.cell 0
  have k1 := isp7.cell 1
  go_wp2_with fail
  refine (KM _ (r25.fr g7 fun _ _ => id)).mono ?_
  clear KM k0 k1
  rintro x w8 ⟨rfl, f8⟩
  have g8 := fr_nil g7 f8
  have isp8 := isp.fr g8 id
  have k0 := isp8.cell 0
  have k1 := isp8.cell 1
  clear isp6 isp7 f6 f7 f8 g7
  go_wp2_with fail
  have rs8 := rds.fr g8 fun _ _ => id
  have rj8 := rdj.fr g8 fun _ _ => id
  have r18 := r15.fr g8 fun _ _ => id
  have r28 := r25.fr g8 fun _ _ => id
  have gz := fr_nil (fr_nil g1 g5) g8
  have rs0 := rds0.fr g8 fun _ _ => id
  have rj0 := rdj0.fr g8 fun _ _ => id
  clear rds rdj rds0 rdj0 r15 r25 isp g5 g8 g1 k0 k1
  go_loopw [74] (fun t wr => ∃ j : Nat, j ≤ l.length ∧ t = .int .i64 (j : Nat) ∧ Fr (fun _ => False) w8 wr) (fun t _ => l.length - (intOf t).toNat)
  case atStart => exact ⟨0, Nat.zero_le _, rfl, Fr.refl _ _⟩
  case round =>
    obtain ⟨j, hjl, rfl, fr⟩ := hrel
    have ispr := isp8.fr fr id
    have k0 := ispr.cell 0
    by_cases hlt : j < l.length
    · obtain ⟨x0, x1, x2⟩ := rd_sec0 (rs0.fr fr fun _ _ => id) hlt
      obtain ⟨ga, oa, rfl, y0, y1, y2⟩ := rd_sec (r18.fr fr fun _ _ => id) hlt
      generalize l[j] = v at *
      obtain ⟨va, vb, vc⟩ := v
      simp only at *
      have i1 : (0 : Int) ≤ (j : Int) := by omega
      have i2 : (j : Int) < (l.length : Int) := by omega
      have i3 : (j : Int) < (l.length : Int) + 1 := by omega
      go_wp2_with fail
      go_quiet (fail)
      go_wp2_with fail
      go_roundw
      case rel => exact ⟨j + 1, by omega, by go_num, fr.drewN nq⟩
      case measure => simp [intOf]; omega
    · have k1 := ispr.cell 1
      go_wp2_with fail
      obtain ⟨wz, rfl⟩ : ∃ wz : World, wz = wr := ⟨_, rfl⟩
      clear k0 k1
      go_loopw [91] (fun t wi => ∃ i : Nat, i ≤ js.length ∧ t = .int .i64 (i : Nat) ∧ Fr (fun _ => False) w8 wi) (fun t _ => js.length - (intOf t).toNat)
      case atStart => exact ⟨0, Nat.zero_le _, rfl, fr⟩
      case round =>
        clear fr ispr
        obtain ⟨i, hi, rfl, fi⟩ := hrel
        have ispi := isp8.fr fi id
        have k1 := ispi.cell 1
        by_cases hlt2 : i < js.length
        · obtain ⟨x0, x1, x2, x3⟩ := rd_jo0 (rj0.fr fi fun _ _ => id) hlt2
          obtain ⟨ga, oa, rfl, y0, y1, y2, y3⟩ := rd_jo (r28.fr fi fun _ _ => id) hlt2
          generalize js[i] = v at *
          obtain ⟨va, vb, vc, vd⟩ := v
          simp only at *
          have i1 : (0 : Int) ≤ (i : Int) := by omega
          have i2 : (i : Int) < (js.length : Int) := by omega
          have i3 : (i : Int) < (js.length : Int) + 1 := by omega
          go_wp2_with fail
          go_quiet (fail)
          go_wp2_with fail
          go_roundw
          case rel => exact ⟨i + 1, by omega, by go_num, fi.drewN nq⟩
          case measure => simp [intOf]; omega
        · have k0 := ispi.cell 0
          obtain ⟨x0, _, _⟩ := rd_sec0 (rs8.fr fi fun _ _ => id) (show l.length < (l ++ [(⟨-7, 0, 0⟩ : Sec)]).length by simp)
          obtain ⟨y0, _, _, _⟩ := rd_jo0 (rj8.fr fi fun _ _ => id) (show js.length < (js ++ [(⟨-8, 0, 0, 0⟩ : Jo)]).length by simp)
          simp only [List.getElem_concat_length] at x0 y0
          go_wp2_with fail
          go_ret
          exact ⟨rfl, (fr_nil gz fi).toBelow0⟩
end Go.Proofs.Ytgommmaipifpaaa

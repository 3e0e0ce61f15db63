import Derived.Deep.RegionHeld3
import Derived.Deep.LoopGhost
import Derived.BigQuiet
import Derived.Deep.CutRange
import Derived.Test.YtginfnbdnkgjbaaGreatV2
import Derived.Test.YtginfnbdnkgjbaaGreatV4
import Derived.Test.YtginfnbdnkgjbaaGreatV1
import Derived.Test.YtginfnbdnkgjbaaGreatV3
/- Plain: what a cycle leans on, of a station that is right: its routes, their lines, what they need. -/
namespace Go.Proofs.YtginfnbdnkgjbaaGreat.Nk
open Lk

/-- the line of a right path is its last section's -/
theorem lineM_last {l : List Sec} {js : List Jo} (hs : sectionsB l = true) (hl : linesB js 0 tk0 l = true) (hj : jointsB l js = true) : ∀ (p : List Go.Proofs.YtginfnbdnkgjbaaGreat.St) (ok : Bool) (s i : Int) (hp : 0 < p.length), (ok = true → nextOk js s i = true) → hangsB l js ok s i p = true → (∀ x ∈ p, isSecB l.length x.sec = true) → lineM l p = lineOf l (p[p.length - 1]'(by omega)).sec.toNat
  | [], _, _, _, hp, _, _, _ => by simp at hp
  | x :: r, ok, s, i, hp, ho, h, hin => by
    unfold hangsB at h
    simp only [Bool.and_eq_true, decide_eq_true_eq] at h
    obtain ⟨h1, h2, h3, h4, h5⟩ := h
    have hx := sec_iff (hin x (List.mem_cons_self ..))
    have hn := ho h1
    obtain ⟨k, hk⟩ := Int.eq_ofNat_of_zero_le hx.1
    have hkl : k < l.length := by omega
    have hln := line_sec hs hkl
    cases r with
    | nil =>
      show max (lineOf l x.sec.toNat) 0 = lineOf l x.sec.toNat
      rw [hk, Int.toNat_natCast]
      omega
    | cons y r =>
      have ih := lineM_last hs hl hj (y :: r) (nextOk js s x.out) (nextS js s x.out) (nextE js s x.out) (by simp) (fun hb => (next_back hj hb).1) h5 (fun z hz => hin z (List.mem_cons_of_mem _ hz))
      have h0 : lineOf l k = 0 := by
        by_cases h0 : lineOf l k = 0
        · exact h0
        · exfalso
          obtain ⟨q1, q2⟩ := lines_sec js l 0 tk0 hl k hkl (by rw [← lineOf_at hkl]; exact h0)
          have hsk : s = (k : Int) := h2.symm.trans hk
          subst hsk
          rw [Nat.zero_add] at q2
          rw [Int.toNat_natCast, kindOf_at hkl, q1] at h4
          rcases track_ways h4 with ⟨-, eo⟩ | ⟨ei, -⟩
          · rw [eo, q2] at h5
            unfold hangsB at h5
            simp at h5
          · rw [ei, q2] at hn
            cases hn
      show max (lineOf l x.sec.toNat) (lineM l (y :: r)) = _
      rw [hk, Int.toNat_natCast, h0, ih]
      have hb : 0 ≤ lineM l (y :: r) := lineM_pos _
      rw [ih] at hb
      simp only [List.length_cons, Nat.add_sub_cancel] at hb ⊢
      simp only [List.getElem_cons_succ] at hb ⊢
      omega
/-- what the cycle of a right station leans on, of its route r -/
structure Rout (C : Cm) (r : Nat) (hr : r < C.rs.length) : Prop where
  small : r < 1000
  one : 1 ≤ C.rs[r].path.length
  eight : C.rs[r].path.length ≤ 8
  path : ∀ x ∈ C.rs[r].path, 0 ≤ x.sec ∧ x.sec < C.l.length
  over : ∀ x ∈ C.rs[r].over, 0 ≤ x ∧ x < C.l.length
  entry : 0 ≤ C.rs[r].entry ∧ C.rs[r].entry < C.sg.length
  needs : Mv.needs C (r : Int) = needsM C.l C.rs[r].rt
  need : ∀ n ∈ needsM C.l C.rs[r].rt, 0 ≤ n.sec ∧ n.sec < C.l.length
  crs : Mv.crs C (r : Int) = crsM C.cr C.rs[r].path
  cross : ∀ n ∈ crsM C.cr C.rs[r].path, 0 ≤ n ∧ n < C.cr.length
  line : lineM C.l C.rs[r].path = lineOf C.l (C.rs[r].path[C.rs[r].path.length - 1]'(by omega)).sec.toNat
  line3 : 0 ≤ lineM C.l C.rs[r].path ∧ lineM C.l C.rs[r].path < 4
theorem rout_of {C : Cm} (hc : checkE C.cf = 0) {r : Nat} (hr : r < C.rs.length) : Rout C r hr := by
  have hm : C.rs[r].rt ∈ C.cf.rts := List.mem_map_of_mem (List.getElem_mem hr)
  have hp := path_in hc hm
  have R := route_right hc hm
  obtain ⟨h1, -, -, h4, h5, -⟩ := check_parts hc
  obtain ⟨a, -, -⟩ := errR_parts (routesE_zero h5 _ hm)
  unfold checkB at h1
  unfold routeB at a
  simp only [Bool.and_eq_true] at h1 a
  have h12 : C.rs.length ≤ 12 := by unfold Cm.cf at h4; simpa using h4
  have hpath : ∀ x ∈ C.rs[r].path, 0 ≤ x.sec ∧ x.sec < C.l.length := fun x hx => sec_iff (R.path x hx)
  have hlk : ∀ x ∈ locksM C.rs[r].rt, 0 ≤ x ∧ x < C.l.length := fun x hx => sec_iff (R.locks x hx).1
  have one : 1 ≤ C.rs[r].path.length := R.one
  have hline : lineM C.l C.rs[r].path = lineOf C.l (C.rs[r].path[C.rs[r].path.length - 1]'(by omega)).sec.toNat := lineM_last h1.2.1 h1.2.2.2 h1.2.2.1 C.rs[r].path _ _ _ (by omega) (fun hb => (next_back h1.2.2.1 hb).1) a.2.2.2.2.1 hp
  have hrf : ∀ x ∈ C.rs[r].over, x ∈ locksM C.rs[r].rt := fun x hx => (locksM_mem _ _).2 (by
    unfold rawLocks
    exact List.mem_append.2 (.inl hx))
  have hfl : ∀ n ∈ C.rs[r].flank, n.sec ∈ locksM C.rs[r].rt := fun n hn => (locksM_mem _ _).2 (by
    unfold rawLocks
    exact List.mem_append.2 (.inr (List.mem_append.2 (.inr (List.mem_map_of_mem hn)))))
  refine ⟨by omega, one, R.eight, hpath, fun x hx => hlk x (hrf x hx), sec_iff R.sig, needs_fit hc hr, ?_, ?_, ?_, hline, ?_⟩
  · intro n hn
    rw [← needs_fit hc hr, Mv.needs_at hr] at hn
    rcases List.mem_append.1 hn with hn | hn
    · obtain ⟨x, hx, hxn⟩ := List.mem_filterMap.1 hn
      rw [ask_sec hxn]
      exact hpath x hx
    · exact hlk _ (hfl n hn)
  · rw [Mv.crs_at hr, crs_fit]
  · intro n hn
    unfold crsM at hn
    obtain ⟨k, hk, rfl⟩ := List.mem_map.1 hn
    have := List.mem_range.1 (List.mem_filter.1 hk).1
    show (0 : Int) ≤ (k : Int) ∧ (k : Int) < _
    omega
  · have hx := hpath _ (List.getElem_mem (show C.rs[r].path.length - 1 < C.rs[r].path.length by omega))
    have := line_sec (l := C.l) h1.2.1 (j := (C.rs[r].path[C.rs[r].path.length - 1]'(by omega)).sec.toNat) (by omega)
    rw [hline]
    omega
end Go.Proofs.YtginfnbdnkgjbaaGreat.Nk
/- Is a route ready: what the program answers, of a station that is right. -/
namespace Go.Proofs.YtginfnbdnkgjbaaGreat.Nk
open Go.RowKit Lk

theorem rt_cf {C : Cm} {r : Nat} (hr : r < C.rs.length) : rtAt C.cf r = C.rs[r].rt := by
  unfold rtAt
  rw [Int.toNat_natCast]
  exact rt_at hr
theorem slim_of {C : Cm} (hc : checkE C.cf = 0) : Mv.Slim C := fun r hr => by
  obtain ⟨-, -, -, -, h5, -⟩ := check_parts hc
  have := right_short (routesE_zero h5 r.rt (List.mem_map_of_mem hr))
  dsimp only [Ro.rt] at this
  omega
theorem nxt_line {C : Cm} (hc : checkE C.cf = 0) {r : Nat} (hr : r < C.rs.length) : ∃ m : Nat, m < 4 ∧ lineM C.l C.rs[r].path = (m : Int) ∧ ∀ {w0 w : World} {sb : Nat} {V : Vm} {K : Km} {rec : Bool}, Cy w0 w sb V K C rec →
    Calls Tryz.prog 208 #[.pointer (some ⟨sb, 0, none⟩), .int .i64 (r : Int)] w fun e w' => e = .returned (.int .i64 (m : Int)) ∧ Fr (fun _ => False) w w' := by
  have R := rout_of hc hr
  have h1 := R.one
  have hsec := R.path _ (List.getElem_mem (show C.rs[r].path.length - 1 < C.rs[r].path.length by omega))
  obtain ⟨s, hs⟩ := Int.eq_ofNat_of_zero_le hsec.1
  have hsl : s < C.l.length := by omega
  obtain ⟨m, hm⟩ := Int.eq_ofNat_of_zero_le R.line3.1
  have hl := R.line
  rw [hs, Int.toNat_natCast, lineOf_at hsl] at hl
  refine ⟨m, by have := R.line3; omega, hm, fun h => ?_⟩
  have := line_any h hr (n := C.rs[r].path.length - 1) (by omega) hs hsl
  rw [← hl, hm] at this
  exact this
theorem ready_any {w0 w : World} {sb : Nat} {V : Vm} {K : Km} {k : Kp} {C : Cm} {rec : Bool} (h : Cy w0 w sb V (kw K k) C rec) (F : FitP C.cf k) (hs : Sees C V) {r : Nat} (hr : r < C.rs.length) :
    Calls Tryz.prog 106 #[.pointer (some ⟨sb, 0, none⟩), .int .i64 (r : Int)] w fun e w' => e = .returned (.bool (readyB C.cf V.vp k r)) ∧ Fr (fun _ => False) w w' := by
  have hc := F.chk
  have R := rout_of hc hr
  have l1 : k.own.length = C.l.length := F.l1
  have l3 : k.pts.length = C.l.length := F.l3
  have l4 : k.crs.length = C.cr.length := F.l4
  have l5 := F.l5
  have h8 := R.eight
  obtain ⟨en, he⟩ := Int.eq_ofNat_of_zero_le R.entry.1
  obtain ⟨m, hm4, hm, KL⟩ := nxt_line hc hr
  have hov : ∀ s ∈ overK k C.rs[r].rt r, 0 ≤ s ∧ s < C.l.length := fun s q => R.over s (List.mem_filter.1 q).1
  have hpl : ∀ s ∈ pathL C.rs[r].rt, 0 ≤ s ∧ s < C.l.length := fun s q => by
    obtain ⟨x, hx, rfl⟩ := List.mem_map.1 q
    exact R.path x hx
  have sh := right_short (routesE_zero (check_parts hc).2.2.2.2.1 C.rs[r].rt (List.mem_map_of_mem (List.getElem_mem hr)))
  dsimp only [Ro.rt] at sh
  have n1 : (pathL C.rs[r].rt).length ≤ 9223372036854775807 := by
    show (C.rs[r].path.map St.sec).length ≤ _
    rw [List.length_map]; omega
  have n2 : (overK k C.rs[r].rt r).length ≤ 9223372036854775807 := Nat.le_trans (List.length_filter_le ..) (by show C.rs[r].over.length ≤ _; omega)
  have n3 : (Mv.needs C (r : Int)).length ≤ 9223372036854775807 := by
    rw [Mv.needs_at hr, List.length_append]
    have b := List.length_filterMap_le (Mv.ask C.l) C.rs[r].path
    omega
  have n4 : (Mv.crs C (r : Int)).length ≤ 9223372036854775807 := by
    rw [Mv.crs_at hr]
    have b := Mv.crsT_le C.rs[r].path C.cr C.cr.length
    have := h.cok.b4
    omega
  refine (ready_walk h hr (fun W f => path_any (h.fr f) hr) (fun W f => overlap_any (h.fr f) hr R.small (fun s q => by have := R.over s q; show 0 ≤ s ∧ s < (k.own.length : Int); omega))
    (fun W f => Mv.needs_any (r : Int) W (h.fr f).cok (slim_of hc)) (fun W f => Mv.crossings_any (r : Int) W (h.fr f).cok)
    (fun W f A c hA => clear_any (h.fr f).vok _ hA n1 (fun s q => by have := hpl s q; have := hs.occ; omega))
    (fun W f A c hA => clear_any (h.fr f).vok _ hA n2 (fun s q => by have := hov s q; have := hs.occ; omega))
    (fun W f A c hA => stand_any (h.fr f) _ hA n3 (fun s q => by rw [R.needs] at q; have := R.need s q; show 0 ≤ s.sec ∧ s.sec < (k.pts.length : Int); omega) (by have := hs.pos; show k.pts.length = _; omega))
    (fun W f A c hA => closed_any (h.fr f) _ hA n4 (fun s q => by rw [R.crs] at q; have := R.cross s q; show 0 ≤ s ∧ s < (k.crs.length : Int); omega) (by have := hs.shut; show k.crs.length = _; omega))
    (fun W f => by rw [he]; exact lit_any (h.fr f).vok (by have := R.entry; have := hs.lamp; omega))
    (fun W f => granted_any (h.fr f) (m := m) (by show m < k.lns.length; omega) (KL (h.fr f)))).mono ?_
  rintro e w' ⟨rfl, f⟩
  refine ⟨?_, f⟩
  unfold readyB grantB
  rw [rt_cf hr, R.needs, R.crs]
  simp only [Bool.and_assoc]
  show _ = Ending.returned (.bool (_ && (_ && (standB V.vp C.tm.age k (needsM C.l C.rs[r].rt) && (closedB V.vp C.tm.age k (crsM C.cr C.rs[r].path) && (litB V.lamp C.rs[r].entry && (decide (lineM C.l C.rs[r].path = 0) || decide ((lnAt k (lineM C.l C.rs[r].path)).pg = (lnAt k (lineM C.l C.rs[r].path)).ask))))))))
  rw [hm, he]
  rfl
end Go.Proofs.YtginfnbdnkgjbaaGreat.Nk
/- What a cycle's short steps leave: a section goes free, a route is done. -/
namespace Go.Proofs.YtginfnbdnkgjbaaGreat.Nk
open Go.RowKit Lk

set_option maxRecDepth 100000 in
set_option maxHeartbeats 2000000 in
theorem free_any {w0 w : World} {sb : Nat} {V : Vm} {K : Km} {k : Kp} {C : Cm} {rec : Bool} (h : Cy w0 w sb V (kw K k) C rec) (hv : V.Ok w0) (hc : C.Ok w0) {s : Nat} (hs : s < k.own.length) :
    Calls Tryz.prog 164 #[.pointer (some ⟨sb, 0, none⟩), .int .i64 (s : Int)] w fun e w' => e = .returned (.tuple #[]) ∧ Cy w0 w' sb V (kw K (freeK k s)) C rec := by
  obtain ⟨g, hA, c, z⟩ := h.at1 (j := s) hs
  have c5 : w.cell? ⟨sb, 5, none⟩ = some (.slice K.A1 k.own.length K.c1) := h.is.cell 5
  have c11 : w.cell? ⟨sb, 11, none⟩ = some (.bool k.dirty) := h.is.cell 11
  have z11 := h.is.frozen 11
  have hA : K.A1 = some ⟨g, 0, none⟩ := hA
  rw [hA] at c5
  have H1 := Lib.hid (h.owner hv hc (j := s) hs hA 0)
  have hne : ¬ sb = g := fun e => h.no (.inl (by rw [e]; show blk K.A1 = _; rw [hA]; rfl))
  have i1 : (0 : Int) ≤ (s : Int) := by omega
  have i2 : (s : Int) < (k.own.length : Int) := by omega
  clear hA
  go_enter Tryz.func164, Tryz.ntmps164
  go_upto_region 1 with fail
  have H2 := H1.out
  generalize World.setCell _ _ _ = w1 at *
  have c11 : w1.cell? ⟨sb, 11, none⟩ = some (.bool k.dirty) := H2.is.cell 11
  have z11 := H2.is.frozen 11
  have H3 := Lib.hid (H2.dirt hv hc true)
  clear H1 H2 c c5 z h
  go_wp2_with fail
  go_end0
  exact ⟨rfl, H3.out⟩
theorem mapd_set {f : Int → Int} {l : List Int} {j : Nat} (hj : j < l.length) : ((l.take j).map f ++ l.drop j).set j (f l[j]) = (l.take (j + 1)).map f ++ l.drop (j + 1) := by
  have e : ((l.take j).map f).length = j := by rw [List.length_map, List.length_take]; omega
  rw [List.set_append_right _ _ (by omega), e, Nat.sub_self, List.drop_eq_getElem_cons hj, List.set_cons_zero, List.take_succ_eq_append_getElem hj, List.map_append, List.append_assoc]
  rfl
theorem mapd_at {f : Int → Int} {l : List Int} {j : Nat} (hj : j < l.length) : ownAt ((l.take j).map f ++ l.drop j) j = l[j] := by
  have e : ((l.take j).map f).length = j := by rw [List.length_map, List.length_take]; omega
  show ((l.take j).map f ++ l.drop j).getD (Int.toNat j) 0 = _
  rw [Int.toNat_natCast, List.getD_eq_getElem?_getD, List.getElem?_append_right (by omega), e, Nat.sub_self, List.drop_eq_getElem_cons hj]
  rfl
theorem mapd_len {f : Int → Int} {l : List Int} {j : Nat} (hj : j ≤ l.length) : ((l.take j).map f ++ l.drop j).length = l.length := by
  rw [List.length_append, List.length_map, List.length_take, List.length_drop]; omega
theorem Cy.ask2 {w0 w : World} {sb : Nat} {V : Vm} {K : Km} {C : Cm} {rec : Bool} (h : Cy w0 w sb V K C rec) {m g : Nat} (hm : m < K.lns.length) (hA : K.A5 = some ⟨g, 0, none⟩) : w.cell? ⟨sb, 9, none⟩ = some (.slice (some ⟨g, 0, none⟩) K.lns.length K.c5) ∧ w.cell? ⟨g, m * 8, none⟩ = some (.int .i64 K.lns[m].ask) := by
  obtain ⟨g', e, c0, _⟩ := h.at5 hm
  have c9 : w.cell? ⟨sb, 9, none⟩ = some (.slice K.A5 K.lns.length K.c5) := h.is.cell 9
  rw [hA] at e c9
  injection e with e
  injection e with e
  subst e
  exact ⟨c9, c0⟩
set_option maxRecDepth 100000 in
set_option maxHeartbeats 8000000 in
theorem end_any {w0 w : World} {sb : Nat} {V : Vm} {K : Km} {k : Kp} {C : Cm} {rec : Bool} (h : Cy w0 w sb V (kw K k) C rec) (hv : V.Ok w0) (hc : C.Ok w0) {r m : Nat} (hr : r < k.rts.length) (hr9 : r < 1000) (hln : k.own.length ≤ 1000) (hm : m < k.lns.length) (hlm : lineM C.l (rtAt C.cf r).path = (m : Int))
    (KL : ∀ W k', Cy w0 W sb V (kw K k') C rec → Calls Tryz.prog 208 #[.pointer (some ⟨sb, 0, none⟩), .int .i64 (r : Int)] W fun e w' => e = .returned (.int .i64 (m : Int)) ∧ Fr (fun _ => False) W w') :
    Calls Tryz.prog 205 #[.pointer (some ⟨sb, 0, none⟩), .int .i64 (r : Int)] w fun e w' => e = .returned (.tuple #[]) ∧ Cy w0 w' sb V (kw K (doneK C.cf k r)) C rec := by
  have c5 : w.cell? ⟨sb, 5, none⟩ = some (.slice K.A1 k.own.length K.c1) := h.is.cell 5
  have HH := Lib.hid h
  have HLM := Lib.hid hlm
  have HKL := Lib.hid KL
  have HB := Lib.hid hln
  clear h hlm KL hln
  generalize hf : (fun o : Int => if o = (r : Int) + 1 then 0 else o) = fo
  have HF := Lib.hid hf
  clear hf
  go_enter Tryz.func205, Tryz.ntmps205
  go_wp2_with fail
  clear c5
  go_loopg [4, 12] k.own.length (fun gi _ v12 wr => ∃ (j : Nat) (b : Bool), j ≤ k.own.length ∧ gi = k.own.length - j ∧ v12 = .int .i64 (j : Nat) ∧ Cy w0 wr sb V (kw K { k with own := (k.own.take j).map fo ++ k.own.drop j, dirty := b }) C rec)
  case atStart => exact ⟨0, k.dirty, Nat.zero_le _, rfl, rfl, HH.out⟩
  case round =>
    clear HH
    obtain ⟨j, b, hj, rfl, rfl, HC⟩ := hrel
    have hlen := mapd_len (f := fo) hj
    by_cases hlt : j < k.own.length
    · have KO := owns_any HC (r := r) (s := j) hr9 (by show j < ((k.own.take j).map fo ++ k.own.drop j).length; omega)
      have KF := free_any HC hv hc (s := j) (by show j < ((k.own.take j).map fo ++ k.own.drop j).length; omega)
      have hset := mapd_set (f := fo) hlt
      have hfo : fo k.own[j] = if k.own[j] = (r : Int) + 1 then 0 else k.own[j] := by rw [← HF.out]
      have KO : Calls Tryz.prog 204 #[.pointer (some ⟨sb, 0, none⟩), .int .i64 (r : Int), .int .i64 (j : Int)] wr fun e w' => e = .returned (.bool (decide (k.own[j] = (r : Int) + 1))) ∧ wr = w' := by
        rw [← mapd_at (f := fo) hlt]; exact KO
      have i1 : (0 : Int) ≤ (j : Int) := by omega
      have i2 : (j : Int) < (k.own.length : Int) := by omega
      have hbb := HB.out
      by_cases he : k.own[j] = (r : Int) + 1
      · rw [decide_eq_true he] at KO
        rw [if_pos he] at hfo
        rw [hfo] at hset
        have HS := Lib.hid hset
        have HJ := Lib.hid hlt
        have HX := Lib.hid KF
        clear HC hj hlen hset hfo hlt KF he
        go_wp2_with fail
        refine KO.mono ?_
        clear KO
        rintro e w1 ⟨rfl, rfl⟩
        go_wp2_with fail
        refine HX.out.mono ?_
        clear HX
        rintro e w1 ⟨rfl, HC⟩
        have HC := Lib.hid HC
        go_wp2_with fail
        go_roundg (k.own.length - (j + 1))
        case measure => have := HJ.out; omega
        case rel => exact ⟨j + 1, true, HJ.out, rfl, by go_num, by rw [← HS.out]; exact HC.out⟩
      · rw [decide_eq_false he] at KO
        rw [if_neg he] at hfo
        have hset2 : (k.own.take (j + 1)).map fo ++ k.own.drop (j + 1) = (k.own.take j).map fo ++ k.own.drop j := by
          rw [← hset, hfo]
          have e : ((k.own.take j).map fo).length = j := by rw [List.length_map, List.length_take]; omega
          rw [List.set_append_right _ _ (by omega), e, Nat.sub_self, List.drop_eq_getElem_cons hlt, List.set_cons_zero]
        have HS := Lib.hid hset2
        have HJ := Lib.hid hlt
        have HC := Lib.hid HC
        clear hj hlen hset hset2 hfo hlt KF he
        go_wp2_with fail
        refine KO.mono ?_
        clear KO
        rintro e w1 ⟨rfl, rfl⟩
        go_wp2_with fail
        go_roundg (k.own.length - (j + 1))
        case measure => have := HJ.out; omega
        case rel => exact ⟨j + 1, b, HJ.out, rfl, by go_num, by rw [HS.out]; exact HC.out⟩
    · have hT : (k.own.take j).map fo ++ k.own.drop j = k.own.map fo := by
        rw [List.take_of_length_le (by omega), List.drop_eq_nil_of_le (by omega), List.append_nil]
      rw [hT] at HC
      have HC := Lib.hid HC
      have hje : k.own.length = j := by omega
      clear hT hlt hlen hj
      go_wp2_with fail
      refine (HKL.out _ _ HC.out).mono ?_
      rintro e w1 ⟨rfl, f1⟩
      have H1 := Lib.hid (HC.out.fr f1)
      clear HC f1
      by_cases h0 : (m : Int) = 0
      · have e0 : ((m : Int) != 0) = false := by simpa using h0
        have HK : Hid (doneK C.cf k r = { k with own := k.own.map fo, rts := k.rts.set r ⟨0, 0, 0, 0⟩, dirty := true }) := Lib.hid (by
          unfold doneK
          rw [show lineM C.cf.secs (rtAt C.cf r).path = (m : Int) from HLM.out, if_pos h0, HF.out])
        have H2 := H1
        clear H1 h0
        go_upto_region 9 with fail
        obtain ⟨g2, hA2, d0, d1, d2, d3, z0, z1, z2, z3⟩ := H2.out.at2 (j := r) hr
        have hA2 : K.A2 = some ⟨g2, 0, none⟩ := hA2
        have c6 : w1.cell? ⟨sb, 6, none⟩ = some (.slice K.A2 k.rts.length K.c2) := H2.out.is.cell 6
        rw [hA2] at c6
        have i1 : (0 : Int) ≤ (r : Int) := by omega
        have i2 : (r : Int) < (k.rts.length : Int) := by omega
        have h3 := H2.out.route hv hc (j := r) hr hA2 ⟨0, 0, 0, 0⟩
        dsimp only at h3
        have H3 := Lib.hid h3
        clear h3
        clear hA2
        go_upto_region 10 with fail
        have H3 := H3.out
        generalize ((((w1.setCell ⟨g2, r * 4, none⟩ (.int .i64 0)).setCell ⟨g2, r * 4 + 1, none⟩ (.int .i64 0)).setCell ⟨g2, r * 4 + 2, none⟩ (.int .i64 0)).setCell ⟨g2, r * 4 + 3, none⟩ (.int .i64 0)) = w3 at *
        have c11 : w3.cell? ⟨sb, 11, none⟩ = some (.bool b) := H3.is.cell 11
        have z11 := H3.is.frozen 11
        have H4 := Lib.hid (H3.dirt hv hc true)
        clear H2 H3 d0 d1 d2 d3 z0 z1 z2 z3 c6
        go_wp2_with fail
        go_end0
        exact ⟨rfl, by rw [HK.out]; exact H4.out⟩
      · have e0 : ((m : Int) != 0) = true := by simpa using h0
        have HK : Hid (doneK C.cf k r = { k with own := k.own.map fo, rts := k.rts.set r ⟨0, 0, 0, 0⟩, lns := k.lns.set m { k.lns[m] with dn := k.lns[m].ask }, dirty := true }) := Lib.hid (by
          unfold doneK
          rw [show lineM C.cf.secs (rtAt C.cf r).path = (m : Int) from HLM.out, if_neg h0, HF.out, lnAt_nat hm, Int.toNat_natCast])
        obtain ⟨g5, hA5, q0, q1, -, zf⟩ := H1.out.at5 (j := m) hm
        have hA5 : K.A5 = some ⟨g5, 0, none⟩ := hA5
        have c9 : w1.cell? ⟨sb, 9, none⟩ = some (.slice K.A5 k.lns.length K.c5) := H1.out.is.cell 9
        rw [hA5] at c9
        have i3 : (0 : Int) ≤ (m : Int) := by omega
        have i4 : (m : Int) < (k.lns.length : Int) := by omega
        have q0 : w1.cell? ⟨g5, m * 8, none⟩ = some (.int .i64 k.lns[m].ask) := q0
        have S0 := Lib.hid (H1.out.drew.ask2 (m := m) hm hA5)
        have HE := Lib.hid (H1.out.drew.lcell hv hc (j := m) hm hA5 k.lns[m].ask)
        have S1 := Lib.hid (HE.out.ask2 (m := m) (by show m < (k.lns.set m _).length; rw [List.length_set]; exact hm) hA5)
        have H2 := Lib.hid ((H1.out.lcell hv hc (j := m) hm hA5 k.lns[m].ask).drew)
        have S1 : Hid (((w1.drew).setCell ⟨g5, m * 8 + 1, none⟩ (.int .i64 k.lns[m].ask)).cell? ⟨sb, 9, none⟩ = some (.slice (some ⟨g5, 0, none⟩) k.lns.length K.c5) ∧ ((w1.drew).setCell ⟨g5, m * 8 + 1, none⟩ (.int .i64 k.lns[m].ask)).cell? ⟨g5, m * 8, none⟩ = some (.int .i64 k.lns[m].ask)) := Lib.hid (by
          have := S1.out
          simpa [kw] using this)
        have S0 : Hid (w1.drew.cell? ⟨sb, 9, none⟩ = some (.slice (some ⟨g5, 0, none⟩) k.lns.length K.c5) ∧ w1.drew.cell? ⟨g5, m * 8, none⟩ = some (.int .i64 k.lns[m].ask)) := Lib.hid S0.out
        generalize k.lns[m].ask = ak at *
        clear hA5 HE H1 h0
        go_upto_region 8 with fail
        go_region_held3 (fun W => W.cell? ⟨sb, 9, none⟩ = some (.slice (some ⟨g5, 0, none⟩) k.lns.length K.c5) ∧ W.cell? ⟨g5, m * 8, none⟩ = some (.int .i64 ak)) (first | exact S0.out | exact S1.out) (first | (fail))
        rename_i hHeld
        clear hHeld S0 S1 q0 q1 zf c9 i3 i4
        generalize (w1.setCell ⟨g5, m * 8 + 1, none⟩ (.int .i64 ak)).drew = w2 at *
        obtain ⟨g2, hA2, d0, d1, d2, d3, z0, z1, z2, z3⟩ := H2.out.at2 (j := r) hr
        have hA2 : K.A2 = some ⟨g2, 0, none⟩ := hA2
        have c6 : w2.cell? ⟨sb, 6, none⟩ = some (.slice K.A2 k.rts.length K.c2) := H2.out.is.cell 6
        rw [hA2] at c6
        have i1 : (0 : Int) ≤ (r : Int) := by omega
        have i2 : (r : Int) < (k.rts.length : Int) := by omega
        have h3 := H2.out.route hv hc (j := r) hr hA2 ⟨0, 0, 0, 0⟩
        dsimp only at h3
        have H3 := Lib.hid h3
        clear h3
        clear hA2
        go_upto_region 10 with fail
        have H3 := H3.out
        generalize ((((w2.setCell ⟨g2, r * 4, none⟩ (.int .i64 0)).setCell ⟨g2, r * 4 + 1, none⟩ (.int .i64 0)).setCell ⟨g2, r * 4 + 2, none⟩ (.int .i64 0)).setCell ⟨g2, r * 4 + 3, none⟩ (.int .i64 0)) = w3 at *
        have c11 : w3.cell? ⟨sb, 11, none⟩ = some (.bool b) := H3.is.cell 11
        have z11 := H3.is.frozen 11
        have H4 := Lib.hid (H3.dirt hv hc true)
        clear H2 H3 d0 d1 d2 d3 z0 z1 z2 z3 c6
        go_wp2_with fail
        go_end0
        exact ⟨rfl, by rw [HK.out]; exact H4.out⟩
end Go.Proofs.YtginfnbdnkgjbaaGreat.Nk
/- A route is cleared, or held: what a cycle's steps leave. -/
namespace Go.Proofs.YtginfnbdnkgjbaaGreat.Nk
open Go.RowKit Lk

theorem Cy.st2 {w0 w : World} {sb : Nat} {V : Vm} {K : Km} {k : Kp} {C : Cm} {rec : Bool} (h : Cy w0 w sb V (kw K k) C rec) (hv : V.Ok w0) (hc : C.Ok w0) {r g : Nat} (hr : r < k.rts.length) (hA : K.A2 = some ⟨g, 0, none⟩) (x : Int) :
    Cy w0 (w.setCell ⟨g, r * 4, none⟩ (.int .i64 x)) sb V (kw K (rset k r { rsAt k r with st := x })) C rec := by
  have := h.rcell hv hc (j := r) hr hA (k := 0) (by decide) x { k.rts[r] with st := x } rfl
  rw [Nat.add_zero] at this
  rw [rsAt_nat hr]
  exact this
theorem Cy.end3 {w0 w : World} {sb : Nat} {V : Vm} {K : Km} {k : Kp} {C : Cm} {rec : Bool} (h : Cy w0 w sb V (kw K k) C rec) (hv : V.Ok w0) (hc : C.Ok w0) {r g : Nat} (hr : r < k.rts.length) (hA : K.A2 = some ⟨g, 0, none⟩) (now : Int) :
    Cy w0 (((w.setCell ⟨g, r * 4, none⟩ (.int .i64 4)).setCell ⟨g, r * 4 + 1, none⟩ (.int .i64 now)).setCell ⟨g, r * 4 + 3, none⟩ (.int .i64 0)) sb V (kw K (rset k r { rsAt k r with st := 4, since := now, mark := 0 })) C rec := by
  have h0 := h.rcell hv hc (j := r) hr hA (k := 0) (by decide) 4 ⟨4, k.rts[r].since, k.rts[r].nxt, k.rts[r].mark⟩ rfl
  have h1 := h0.rcell hv hc (j := r) (k := 1) (by show r < (k.rts.set r _).length; rw [List.length_set]; exact hr) hA (by decide) now ⟨4, now, k.rts[r].nxt, k.rts[r].mark⟩ (by simp [cRs, kw])
  have h3 := h1.rcell hv hc (j := r) (k := 3) (by show r < ((k.rts.set r _).set r _).length; rw [List.length_set, List.length_set]; exact hr) hA (by decide) 0 ⟨4, now, k.rts[r].nxt, 0⟩ (by simp [cRs, kw])
  rw [rsAt_nat hr]
  have h4 : Cy w0 (((w.setCell ⟨g, r * 4, none⟩ (.int .i64 4)).setCell ⟨g, r * 4 + 1, none⟩ (.int .i64 now)).setCell ⟨g, r * 4 + 3, none⟩ (.int .i64 0)) sb V (kw K { k with rts := ((k.rts.set r ⟨4, k.rts[r].since, k.rts[r].nxt, k.rts[r].mark⟩).set r ⟨4, now, k.rts[r].nxt, k.rts[r].mark⟩).set r ⟨4, now, k.rts[r].nxt, 0⟩ }) C rec := h3
  rw [List.set_set, List.set_set] at h4
  exact h4
theorem Cy.at2g {w0 w : World} {sb : Nat} {V : Vm} {K : Km} {k : Kp} {C : Cm} {rec : Bool} (h : Cy w0 w sb V (kw K k) C rec) {j g : Nat} (hj : j < k.rts.length) (hA : K.A2 = some ⟨g, 0, none⟩) : w.cell? ⟨g, j * 4, none⟩ = some (.int .i64 k.rts[j].st) ∧ w.cell? ⟨g, j * 4 + 1, none⟩ = some (.int .i64 k.rts[j].since) ∧ w.cell? ⟨g, j * 4 + 2, none⟩ = some (.int .i64 k.rts[j].nxt) ∧ w.cell? ⟨g, j * 4 + 3, none⟩ = some (.int .i64 k.rts[j].mark) ∧
    w.frozen? ⟨g, j * 4, none⟩ = false ∧ w.frozen? ⟨g, j * 4 + 1, none⟩ = false ∧ w.frozen? ⟨g, j * 4 + 2, none⟩ = false ∧ w.frozen? ⟨g, j * 4 + 3, none⟩ = false := by
  obtain ⟨g', e, r⟩ := h.at2 (j := j) hj
  have e : K.A2 = some ⟨g', 0, none⟩ := e
  rw [hA] at e
  injection e with e
  injection e with e
  subst e
  exact r
set_option maxRecDepth 100000 in
set_option maxHeartbeats 4000000 in
theorem clearSignal_any {w0 w : World} {sb : Nat} {V : Vm} {K : Km} {k : Kp} {C : Cm} {rec : Bool} (h : Cy w0 w sb V (kw K k) C rec) (hv : V.Ok w0) (hc : C.Ok w0) (F : FitP C.cf k) (hs : Sees C V) {r : Nat} (hr : r < C.rs.length) :
    Calls Tryz.prog 160 #[.pointer (some ⟨sb, 0, none⟩), .int .i64 (r : Int)] w fun e w' => e = .returned (.tuple #[]) ∧ Cy w0 w' sb V (kw K (if (rec && readyB C.cf V.vp k r) = true then rset k r { rsAt k r with st := 2 } else k)) C rec := by
  have KR := ready_any h F hs hr
  have c21 : w.cell? ⟨sb, 21, none⟩ = some (.bool rec) := h.is.cell 21
  have hl : r < k.rts.length := by have := F.l2; unfold Cm.cf at this; simp at this; omega
  generalize readyB C.cf V.vp k r = b at *
  have HH := Lib.hid h
  clear h F hs hr
  cases rec
  · rw [Bool.false_and, if_neg (by decide)]
    clear KR
    go_enter Tryz.func160, Tryz.ntmps160
    go_wp2_with fail
    go_end0
    exact ⟨rfl, HH.out⟩
  · rw [Bool.true_and]
    cases b
    · rw [if_neg (by decide)]
      go_enter Tryz.func160, Tryz.ntmps160
      go_wp2_with fail
      refine KR.mono ?_
      clear KR c21
      rintro e w1 ⟨rfl, f⟩
      have H1 := Lib.hid (HH.out.fr f)
      clear f
      go_wp2_with fail
      go_end0
      exact ⟨rfl, H1.out⟩
    · rw [if_pos rfl]
      go_enter Tryz.func160, Tryz.ntmps160
      go_wp2_with fail
      refine KR.mono ?_
      clear KR c21
      rintro e w1 ⟨rfl, f⟩
      have h1 := HH.out.fr f
      obtain ⟨g, hA, d0, -, -, -, z0, -, -, -⟩ := h1.at2 (j := r) hl
      have hA : K.A2 = some ⟨g, 0, none⟩ := hA
      have c6 : w1.cell? ⟨sb, 6, none⟩ = some (.slice K.A2 k.rts.length K.c2) := h1.is.cell 6
      rw [hA] at c6
      have H2 := Lib.hid (h1.st2 hv hc hl hA 2)
      have i1 : (0 : Int) ≤ (r : Int) := by omega
      have i2 : (r : Int) < (k.rts.length : Int) := by omega
      clear f h1 hA
      go_wp2_with fail
      go_end0
      exact ⟨rfl, H2.out⟩
set_option maxRecDepth 100000 in
set_option maxHeartbeats 8000000 in
theorem holdSignal_any {w0 w : World} {sb : Nat} {V : Vm} {K : Km} {k : Kp} {C : Cm} {rec : Bool} (h : Cy w0 w sb V (kw K k) C rec) (hv : V.Ok w0) (hc : C.Ok w0) (F : FitP C.cf k) (hs : Sees C V) (now : Int) {r : Nat} (hr : r < C.rs.length) :
    Calls Tryz.prog 161 #[.pointer (some ⟨sb, 0, none⟩), .int .i64 now, .int .i64 (r : Int)] w fun e w' => e = .returned (.tuple #[]) ∧ Cy w0 w' sb V (kw K (if (pathL (rtAt C.cf r)).all (clrB V.occ) = false then rset k r { rsAt k r with st := 4, since := now, mark := 0 } else if (rsAt k r).st = 2 ∧ readyB C.cf V.vp k r = false then rset k r { rsAt k r with st := 3 } else k)) C rec := by
  have hl : r < k.rts.length := by have := F.l2; unfold Cm.cf at this; simp at this; omega
  have R := rout_of F.chk hr
  have KP := fun W (f : Fr (fun _ => False) w W) => path_any (h.fr f) hr
  have KR := fun W (f : Fr (fun _ => False) w W) => ready_any (h.fr f) F hs hr
  have KC := fun W (f : Fr (fun _ => False) w W) (A : Option Addr) (c : Nat) (hA : Rd W A ((pathL C.rs[r].rt).map (Value.int .i64))) => clear_any (age := C.tm.age) (A := A) (c := c) (h.fr f).vok (pathL C.rs[r].rt) hA (by show (C.rs[r].path.map St.sec).length ≤ _; rw [List.length_map]; have := R.eight; omega) (fun s q => by
    obtain ⟨x, hx, rfl⟩ := List.mem_map.1 q
    have := R.path x hx
    have := hs.occ
    omega)
  rw [rt_cf hr]
  generalize (pathL C.rs[r].rt).all (clrB V.occ) = a at *
  generalize readyB C.cf V.vp k r = b at *
  generalize pathL C.rs[r].rt = L at *
  generalize hT : (if a = false then rset k r { rsAt k r with st := 4, since := now, mark := 0 } else if (rsAt k r).st = 2 ∧ b = false then rset k r { rsAt k r with st := 3 } else k) = T
  have HT := Lib.hid hT
  clear hT
  obtain ⟨g, hA, d0, d1, d2, d3, z0, z1, z2, z3⟩ := h.at2 (j := r) hl
  have hA : K.A2 = some ⟨g, 0, none⟩ := hA
  have c6 : w.cell? ⟨sb, 6, none⟩ = some (.slice K.A2 k.rts.length K.c2) := h.is.cell 6
  rw [hA] at c6
  have HS : Hid (∀ W, Fr (fun _ => False) w W → W.cell? ⟨sb, 0, none⟩ = some (.slice V.A1 V.occ.length V.c1) ∧ W.cell? ⟨sb, 1, none⟩ = some (.slice V.A2 V.pos.length V.c2) ∧ W.cell? ⟨sb, 2, none⟩ = some (.slice V.A3 V.shut.length V.c3) ∧ W.cell? ⟨sb, 3, none⟩ = some (.slice V.A4 V.lamp.length V.c4) ∧ W.cell? ⟨sb, 4, none⟩ = some (.int .i64 C.tm.age)) := Lib.hid fun W f => (h.fr f).eye5
  have HKP := Lib.hid KP
  have HKR := Lib.hid KR
  have HKC := Lib.hid KC
  have HH := Lib.hid h
  have HA := Lib.hid hA
  have i1 : (0 : Int) ≤ (r : Int) := by omega
  have i2 : (r : Int) < (k.rts.length : Int) := by omega
  have HRS := Lib.hid (rsAt_nat (k := k) hl)
  clear h F hs hr R KP KR KC hA
  go_enter Tryz.func161, Tryz.ntmps161
  go_wp2_with fail
  go_upto_region 1 with fail
  clear c6 i1 i2
  have s0 := HS.out _ (Fr.refl _ w).drew
  have HG0 := Lib.hid (Fr.refl (fun _ => False) w).drew
  unfold eyeArr at HKC
  go_region_held3 (fun W => W.cell? ⟨sb, 0, none⟩ = some (.slice V.A1 V.occ.length V.c1) ∧ W.cell? ⟨sb, 1, none⟩ = some (.slice V.A2 V.pos.length V.c2) ∧ W.cell? ⟨sb, 2, none⟩ = some (.slice V.A3 V.shut.length V.c3) ∧ W.cell? ⟨sb, 3, none⟩ = some (.slice V.A4 V.lamp.length V.c4) ∧ W.cell? ⟨sb, 4, none⟩ = some (.int .i64 C.tm.age)) (first | with_reducible exact s0 | with_reducible exact s1 | with_reducible exact s2) (first | (go_at_call 167; (with_reducible refine (HKP.out _ HG0.out).mono ?_); rintro _ w1 ⟨_, rfl, ⟨A1, q1, rfl, o1⟩, f1⟩; have HO1 := Lib.hid o1; have HG1 := Lib.hid (fr_nil HG0.out f1); have s1 := HS.out _ HG1.out; clear f1 o1) | (go_at_call 166; (with_reducible refine (HKC.out _ HG1.out A1 q1 (wide_rd HO1.out)).mono ?_); rintro _ w2 ⟨rfl, f2⟩; have HG2 := Lib.hid (fr_nil HG1.out f2); have s2 := HS.out _ HG2.out; clear f2))
  rename_i hHeld
  clear hHeld s0 s1 s2 d0 d1 d2 d3 z0 z1 z2 z3 HO1 HG1 HG0 HS HKP HKC
  have H2 := Lib.hid (HH.out.fr HG2.out)
  obtain ⟨d0, d1, d2, d3, z0, z1, z2, z3⟩ := H2.out.at2g hl HA.out
  cases a
  · have HT2 : Hid (T = rset k r { rsAt k r with st := 4, since := now, mark := 0 }) := Lib.hid (HT.out.symm.trans (if_pos rfl))
    have H3 := Lib.hid (H2.out.end3 hv hc hl HA.out now)
    go_wp2_with fail
    go_end0
    exact ⟨rfl, by rw [HT2.out]; exact H3.out⟩
  · have HT := Lib.hid ((if_neg (show ¬ (true = false) by decide)).symm.trans HT.out)
    have KR := HKR.out _ HG2.out
    by_cases h2 : (rsAt k r).st = 2
    · have e2 : k.rts[r].st = 2 := by rw [← HRS.out]; exact h2
      rw [e2] at d0
      clear e2
      cases b
      · have HT2 : Hid (T = rset k r { rsAt k r with st := 3 }) := Lib.hid (HT.out.symm.trans (if_pos ⟨h2, rfl⟩))
        clear h2
        go_wp2_with fail
        refine KR.mono ?_
        clear KR d0 d1 d2 d3 z0 z1 z2 z3
        rintro e w3 ⟨rfl, f3⟩
        have h3 := H2.out.fr f3
        obtain ⟨d0, -, -, -, z0, -, -, -⟩ := h3.at2g hl HA.out
        have H3 := Lib.hid (h3.st2 hv hc hl HA.out 3)
        clear f3 h3
        go_wp2_with fail
        go_end0
        exact ⟨rfl, by rw [HT2.out]; exact H3.out⟩
      · have HT2 : Hid (T = k) := Lib.hid (HT.out.symm.trans (if_neg (by simp)))
        clear h2
        go_wp2_with fail
        refine KR.mono ?_
        clear KR d0 d1 d2 d3 z0 z1 z2 z3
        rintro e w3 ⟨rfl, f3⟩
        have H3 := Lib.hid (H2.out.fr f3)
        clear f3
        go_wp2_with fail
        go_end0
        exact ⟨rfl, by rw [HT2.out]; exact H3.out⟩
    · have HT2 : Hid (T = k) := Lib.hid (HT.out.symm.trans (if_neg (by simp [h2])))
      have e2 : (k.rts[r].st == 2) = false := by rw [← HRS.out]; simpa using h2
      generalize k.rts[r].st = x at *
      clear h2 KR
      go_wp2_with fail
      go_end0
      exact ⟨rfl, by rw [HT2.out]; exact H2.out⟩
end Go.Proofs.YtginfnbdnkgjbaaGreat.Nk
/- Plain: which sections a cycle gives back, and why. -/
namespace Go.Proofs.YtginfnbdnkgjbaaGreat.Nk
open Lk

theorem rsAt_rset {k : Kp} {i : Nat} {x : Rs} (hi : i < k.rts.length) : rsAt (rset k i x) i = x := by
  show (k.rts.set i x).getD (Int.toNat (i : Int)) default = x
  rw [Int.toNat_natCast, List.getD_eq_getElem?_getD, List.getElem?_set_self hi]
  rfl
/-- a path goes through no section twice -/
theorem once_inj : ∀ (p : List St) (b : List Bool), onceB b p = true → (∀ x ∈ p, x.sec.toNat < b.length) → ∀ i j (hi : i < p.length) (hj : j < p.length), p[i].sec = p[j].sec → i = j
  | [], _, _, _, i, _, hi, _, _ => by simp at hi
  | y :: r, b, h, hl, i, j, hi, hj, e => by
    have hy := hl y List.mem_cons_self
    unfold onceB at h
    rw [Bool.and_eq_true, Bool.not_eq_true'] at h
    have hl' : ∀ x ∈ r, x.sec.toNat < (b.set y.sec.toNat true).length := fun x hx => by rw [List.length_set]; exact hl x (List.mem_cons_of_mem _ hx)
    have no : ∀ x ∈ r, x.sec ≠ y.sec := fun x hx e => by
      have := once_not r _ h.2 x hx (hl' x hx)
      rw [e, seenAt_set _ _ _ hy] at this
      simp at this
    cases i with
    | zero =>
      cases j with
      | zero => rfl
      | succ j => exact absurd e.symm (no _ (List.getElem_mem _))
    | succ i =>
      cases j with
      | zero => exact absurd e (no _ (List.getElem_mem _))
      | succ j => exact congrArg (· + 1) (once_inj r _ h.2 hl' i j (by simpa using hi) (by simpa using hj) (by simpa using e))
/-- of a right station -/
theorem path_inj {c : Cf} (h : checkE c = 0) {r : Rt} (hr : r ∈ c.rts) {i j : Nat} (hi : i < r.path.length) (hj : j < r.path.length) (e : r.path[i].sec = r.path[j].sec) : i = j := by
  have hpath := path_in h hr
  obtain ⟨-, -, -, -, h5, -⟩ := check_parts h
  obtain ⟨a, -, -⟩ := errR_parts (routesE_zero h5 r hr)
  unfold routeB at a
  simp only [Bool.and_eq_true, decide_eq_true_eq] at a
  obtain ⟨-, -, -, -, -, a6, -⟩ := a
  exact once_inj _ _ a6 (fun x hx => by rw [List.length_set, List.length_replicate]; exact nat_of_sec (hpath x hx)) i j hi hj e

/-- why a section that was the route's goes free -/
structure Given (c : Cf) (v : Vp) (now : Int) (k k1 : Kp) (i s : Nat) : Prop where
  was : ownAt k.own s = (i : Int) + 1
  st : (rsAt k i).st = 4
  since : (rsAt k i).since + c.tm.hold ≤ now
  why : (rsAt k1 i).st = 0 ∨ nxtSec c k i = s ∧ (rsAt k i).nxt ≠ (rtAt c i).path.length ∧ clbB v.occ s (max ((rsAt k i).since + c.tm.hold) (rsAt k i).mark) = true
theorem passK_given {c : Cf} {v : Vp} {now : Int} {k : Kp} {i s : Nat} (hp : 0 ≤ nxtSec c k i) (hne : ownAt (passK c v now k i).own s ≠ ownAt k.own s) : ownAt k.own s = (i : Int) + 1 ∧ nxtSec c k i = s ∧ (rsAt k i).nxt ≠ (rtAt c i).path.length ∧ clbB v.occ s (max ((rsAt k i).since + c.tm.hold) (rsAt k i).mark) = true := by
  unfold passK at hne
  split at hne
  · exact absurd rfl hne
  · rename_i h1
    split at hne
    · exact absurd rfl hne
    · rename_i h2
      have h2 : ownAt k.own (nxtSec c k i) = (i : Int) + 1 := by omega
      split at hne
      · rename_i h3
        by_cases h : (nxtSec c k i).toNat = s
        · have e : nxtSec c k i = (s : Int) := by omega
          exact ⟨by rw [← e]; exact h2, e, h1, by rw [← e]; exact h3⟩
        · refine absurd ?_ hne
          show ownAt (k.own.set (nxtSec c k i).toNat 0) s = _
          unfold ownAt
          simp only [Int.toNat_natCast, List.getD_eq_getElem?_getD, List.getElem?_set_ne h]
      · exact absurd rfl hne
theorem goK_given {c : Cf} {v : Vp} {rec : Bool} {now : Int} {k : Kp} {i s : Nat} (hp : 0 ≤ nxtSec c k i) (hi : i < k.rts.length) (hs : s < k.own.length) (hne : ownAt (goK c v rec now k i).own s ≠ ownAt k.own s) : Given c v now k (goK c v rec now k i) i s := by
  rcases goK_own c v rec now k i s hp hs with e | ⟨q0, q1, q2, q3, q4⟩
  · exact absurd e hne
  · refine ⟨q1, q2, q3, ?_⟩
    have e : goK c v rec now k i = giveK c v now k i := by
      unfold goK
      rw [if_neg (by omega), if_neg (by omega), if_pos q2]
    rw [e] at hne ⊢
    unfold giveK at hne ⊢
    rw [if_neg (by omega)] at hne ⊢
    split
    · refine .inl ?_
      have : rsAt (doneK c (passK c v now k i) i) i = ⟨0, 0, 0, 0⟩ := rsAt_rset (k := passK c v now k i) (by rw [(passK_len c v now k i).1]; exact hi)
      rw [this]
    · rename_i h
      rw [if_neg h] at hne
      exact .inr (passK_given hp hne).2
theorem goAll_given {c : Cf} {v : Vp} {rec : Bool} {now : Int} {k : Kp} (hp : ∀ i, ∀ x ∈ pathL (rtAt c i), 0 ≤ x) {s : Nat} (hs : s < k.own.length) : ∀ n, n ≤ k.rts.length → ownAt (goAll c v rec now k n).own s ≠ ownAt k.own s → ∃ i : Nat, i < n ∧ Given c v now k (goAll c v rec now k n) i s
  | 0, _, h => absurd rfl h
  | n + 1, hn, h => by
    rw [goAll_succ] at h ⊢
    have hl := goAll_len c v rec now k n
    have l : rsAt (goAll c v rec now k n) n = rsAt k n := goAll_later c v rec now k n n (Nat.le_refl n)
    by_cases e : ownAt (goK c v rec now (goAll c v rec now k n) n).own s = ownAt (goAll c v rec now k n).own s
    · rw [e] at h
      obtain ⟨i, hi, g⟩ := goAll_given hp hs n (by omega) h
      exact ⟨i, by omega, g.was, g.st, g.since, by rw [goK_other (h := by omega)]; exact g.why⟩
    · have g := goK_given (nxtSec_pos (hp n)) (by rw [hl.1]; omega) (by rw [hl.2]; exact hs) e
      refine ⟨n, by omega, ?_, ?_, ?_, ?_⟩
      · rcases goAll_own c v rec now k hp s hs n with r | ⟨r, -⟩
        · rw [← r]; exact g.was
        · have := g.was; omega
      · rw [← l]; exact g.st
      · rw [← l]; exact g.since
      · have w := g.why
        unfold nxtSec at w ⊢
        rw [l] at w
        exact w
theorem cycK_rts (c : Cf) (v : Vp) (now : Int) (k : Kp) : (cycK c v now k).rts = (goAll c v (!k.dirty) now k c.rts.length).rts := by
  unfold cycK
  rw [(resAll_len v _ _).2, (crossAll_same c now _ _).2.1]
/-- P14.3: an owner that a cycle changes -/
theorem cycK_frees {c : Cf} {v : Vp} {now : Int} {k : Kp} (hp : ∀ i, ∀ x ∈ pathL (rtAt c i), 0 ≤ x) (hl : k.rts.length = c.rts.length) {s : Nat} (hs : s < k.own.length) (hne : ownAt (cycK c v now k).own s ≠ ownAt k.own s) :
    ownAt (cycK c v now k).own s = 0 ∧ (cycK c v now k).dirty = true ∧ ((ownAt k.own s = -1 ∧ (goAll c v (!k.dirty) now k c.rts.length).rss.getD s 0 ≠ 0 ∧ clbB v.occ s ((goAll c v (!k.dirty) now k c.rts.length).rss.getD s 0 - 1) = true) ∨
      ∃ i : Nat, i < c.rts.length ∧ Given c v now k (cycK c v now k) i s) := by
  have a := goAll_own c v (!k.dirty) now k hp s hs c.rts.length
  have x := crossAll_same c now (goAll c v (!k.dirty) now k c.rts.length) c.crs.length
  have b := resAll_own v (crossAll c now (goAll c v (!k.dirty) now k c.rts.length) c.crs.length) s (by rw [x.1, (goAll_len c v (!k.dirty) now k c.rts.length).2]; exact hs) k.rss.length
  rw [x.1, x.2.2.1] at b
  have R := cycK_rts c v now k
  unfold cycK at hne ⊢
  rcases b with b | ⟨b0, b1, b2, b3, b4⟩
  · rw [b] at hne ⊢
    obtain ⟨i, hi, g⟩ := goAll_given hp hs c.rts.length (by omega) hne
    rcases a with a | ⟨a0, a1, -⟩
    · exact absurd a hne
    · refine ⟨a0, resAll_dirty v _ (by rw [x.2.2.2]; exact a1) _, .inr ⟨i, hi, g.was, g.st, g.since, ?_⟩⟩
      have w := g.why
      unfold rsAt at w ⊢
      unfold cycK at R
      rw [R]
      exact w
  · rcases a with a | ⟨a0, -⟩
    · exact ⟨b0, b4, .inl ⟨by rw [← a]; exact b1, b2, b3⟩⟩
    · omega
/-- no route's step asks for a reset -/
theorem goK_rss (c : Cf) (v : Vp) (rec : Bool) (now : Int) (k : Kp) (i : Nat) : (goK c v rec now k i).rss = k.rss := by
  have h : (passK c v now k i).rss = k.rss := by unfold passK; repeat (first | rfl | split)
  unfold goK giveK
  repeat (first | exact h | rfl | split)
theorem goAll_rss (c : Cf) (v : Vp) (rec : Bool) (now : Int) (k : Kp) : ∀ n, (goAll c v rec now k n).rss = k.rss
  | 0 => rfl
  | n + 1 => by rw [goAll_succ, goK_rss]; exact goAll_rss c v rec now k n
end Go.Proofs.YtginfnbdnkgjbaaGreat.Nk
/- Plain: what the signals show; a cycle in which no route is locked. -/
namespace Go.Proofs.YtginfnbdnkgjbaaGreat.Nk
open Lk
/-- what a route's signal shows when it is cleared -/
def aspR (r : Rt) : Int := if r.shunt = true then 1 else 2
def aspK (c : Cf) (k : Kp) (l : List Int) (i : Nat) : List Int :=
  if (rsAt k i).st = 2 then l.set (rtAt c i).entry.toNat (max (l.getD (rtAt c i).entry.toNat 0) (aspR (rtAt c i))) else l
def aspAll (c : Cf) (k : Kp) (n : Nat) : List Int := (List.range n).foldl (aspK c k) (List.replicate c.sigs.length 0)
theorem aspAll_succ (c : Cf) (k : Kp) (n : Nat) : aspAll c k (n + 1) = aspK c k (aspAll c k n) n := by
  unfold aspAll
  rw [List.range_succ, List.foldl_append]
  rfl
theorem aspK_len (c : Cf) (k : Kp) (l : List Int) (i : Nat) : (aspK c k l i).length = l.length := by
  unfold aspK
  split
  · exact List.length_set ..
  · rfl
theorem aspAll_len (c : Cf) (k : Kp) : ∀ n, (aspAll c k n).length = c.sigs.length
  | 0 => List.length_replicate
  | n + 1 => by rw [aspAll_succ, aspK_len]; exact aspAll_len c k n
theorem crossAll_succ (c : Cf) (now : Int) (k : Kp) (n : Nat) : crossAll c now k (n + 1) = crossK c now (crossAll c now k n) n := by
  unfold crossAll
  rw [List.range_succ, List.foldl_append]
  rfl
theorem crossAll_crl (c : Cf) (now : Int) (k : Kp) : ∀ n, (crossAll c now k n).crs.length = k.crs.length ∧ (crossAll c now k n).lns = k.lns ∧ (crossAll c now k n).pts = k.pts
  | 0 => ⟨rfl, rfl, rfl⟩
  | n + 1 => by
    have h := crossAll_crl c now k n
    rw [crossAll_succ]
    exact ⟨(List.length_set ..).trans h.1, h.2⟩
end Go.Proofs.YtginfnbdnkgjbaaGreat.Nk
/- Plain: what a cycle leads to fits; a cancelled route, cycle by cycle (P14.3). -/
namespace Go.Proofs.YtginfnbdnkgjbaaGreat.Nk
open Lk
theorem rset_fit {c : Cf} {k : Kp} (h : FitP c k) {i : Nat} {x : Rs} (hx : ∀ hj : i < c.rts.length, rsB c.rts[i] x = true) : FitP c (rset k i x) := h.with_rt hx
theorem freeK_fit {c : Cf} {k : Kp} (h : FitP c k) (s : Int) : FitP c (freeK k s) :=
  (h.with_own (o := k.own.set s.toNat 0) (List.length_set ..) (all_set h.own (inB_iff.2 (by omega)))).with_dirty true
theorem lnAt_ok {c : Cf} {k : Kp} (h : FitP c k) (l : Int) : lnB { lnAt k l with dn := (lnAt k l).ask } = true := by
  have : lnB (lnAt k l) = true := by
    unfold lnAt
    rw [List.getD_eq_getElem?_getD]
    cases e : k.lns[l.toNat]? with
    | none => rfl
    | some m => exact h.lns m (List.mem_of_getElem? e)
  unfold lnB at this ⊢
  simp only [List.all_cons, List.all_nil, Bool.and_eq_true, tm_iff, inB_iff, Bool.and_true] at this ⊢
  omega
theorem doneK_fit {c : Cf} {k : Kp} (h : FitP c k) (i : Nat) : FitP c (doneK c k i) := by
  have f := h.with_rt (j := i) (x := ⟨0, 0, 0, 0⟩) fun hj => rsB_iff.2 (by dsimp only; omega)
  unfold doneK
  refine ⟨h.chk, (List.length_map ..).trans h.l1, f.l2, h.l3, h.l4, ?_, h.l6, ?_, f.rts, h.pts, h.crs, ?_, h.rss⟩
  · dsimp only
    split
    · exact h.l5
    · exact (List.length_set ..).trans h.l5
  · intro o ho
    obtain ⟨x, hx, rfl⟩ := List.mem_map.1 ho
    try dsimp only
    split
    · exact inB_iff.2 (by omega)
    · exact h.own x hx
  · dsimp only
    split
    · exact h.lns
    · exact all_set h.lns (lnAt_ok h _)
theorem passK_fit {c : Cf} {v : Vp} {now : Int} {k : Kp} (h : FitP c k) (hn : tmB now = true) {i : Nat} (hi : i < c.rts.length) : FitP c (passK c v now k i) := by
  have a := rsB_iff.1 (h.rt_at hi)
  have b := tm_iff.1 hn
  rw [← rt_mem hi] at a
  unfold passK
  split
  · exact h
  · rename_i hx
    split
    · exact rset_fit h fun hj => rsB_iff.2 (by rw [← rt_mem hi]; dsimp only; omega)
    · split
      · exact rset_fit (freeK_fit h _) fun hj => rsB_iff.2 (by rw [← rt_mem hi]; dsimp only; omega)
      · exact h
theorem goK_fit {c : Cf} {v : Vp} {rec : Bool} {now : Int} {k : Kp} (h : FitP c k) (hn : tmB now = true) {i : Nat} (hi : i < c.rts.length) : FitP c (goK c v rec now k i) := by
  have a := rsB_iff.1 (h.rt_at hi)
  have b := tm_iff.1 hn
  unfold goK giveK
  split
  · split
    · exact rset_fit h fun hj => rsB_iff.2 (by dsimp only; omega)
    · exact h
  · split
    · split
      · exact rset_fit h fun hj => rsB_iff.2 (by dsimp only; omega)
      · split
        · exact rset_fit h fun hj => rsB_iff.2 (by dsimp only; omega)
        · exact h
    · split
      · split
        · exact h
        · split
          · exact doneK_fit (passK_fit h hn hi) i
          · exact passK_fit h hn hi
      · exact h
theorem goAll_fit {c : Cf} {v : Vp} {rec : Bool} {now : Int} {k : Kp} (h : FitP c k) (hn : tmB now = true) : ∀ n, n ≤ c.rts.length → FitP c (goAll c v rec now k n)
  | 0, _ => h
  | n + 1, hl => by
    rw [goAll_succ]
    exact goK_fit (goAll_fit h hn n (by omega)) hn (by omega)
theorem crossAll_fit {c : Cf} {now : Int} {k : Kp} (h : FitP c k) (hn : tmB now = true) : ∀ n, FitP c (crossAll c now k n)
  | 0 => h
  | n + 1 => by
    have f := crossAll_fit h hn n
    rw [crossAll_succ]
    refine { f with l4 := (List.length_set ..).trans f.l4, crs := all_set f.crs (cmd_ok (getD_ok f.crs n) hn ?_) }
    split <;> omega
theorem resAll_fit {c : Cf} {v : Vp} {k : Kp} (h : FitP c k) : ∀ n, FitP c (resAll v k n)
  | 0 => h
  | n + 1 => by
    have f := resAll_fit (v := v) h n
    rw [resAll_succ]
    unfold resK
    have z : inB 0 4294967296 0 = true := by decide
    split
    · exact f
    · split
      · exact { f with l6 := (List.length_set ..).trans f.l6, rss := all_set f.rss z }
      · split
        · have g := freeK_fit f (n : Int)
          exact { g with l6 := (List.length_set ..).trans f.l6, rss := all_set f.rss z }
        · exact f
/-- what a cycle leads to fits -/
theorem cyc_fit {c : Cf} {v : Vp} {now : Int} {k : Kp} (h : FitP c k) (hn : tmB now = true) : FitP c (cycK c v now k) :=
  resAll_fit (crossAll_fit (goAll_fit h hn _ (Nat.le_refl _)) hn _) _
/-! ### One route ends, all others are idle -/
/-- the route i is ending since the cycle 1, n sections of its path are given back; nobody else has anything -/
structure Ends1 (c : Cf) (k : Kp) (i n : Nat) (now : Int) : Prop where
  fit : FitP c k
  hi : i < c.rts.length
  idle : ∀ j : Nat, j ≠ i → (rsAt k j).st = 0
  st : (rsAt k i).st = 4
  since : (rsAt k i).since = 1
  nxt : (rsAt k i).nxt = n
  mark : (rsAt k i).mark < now
  due : ∀ j, j < k.rss.length → k.rss.getD j 0 = 0
  mine : ∀ s, s < k.own.length → ownAt k.own s = 0 ∨ ownAt k.own s = (i : Int) + 1
  rest : ∀ j (h : j < (rtAt c i).path.length), n ≤ j → ownAt k.own ((rtAt c i).path[j].sec) = (i : Int) + 1
end Go.Proofs.YtginfnbdnkgjbaaGreat.Nk
/- A route gives back: what a cycle's step leaves (written by gen/give.py). -/
namespace Go.Proofs.YtginfnbdnkgjbaaGreat.Nk
open Go.RowKit Lk

theorem Cy.cell2 {w0 w : World} {sb : Nat} {V : Vm} {K : Km} {k : Kp} {C : Cm} {rec : Bool} (h : Cy w0 w sb V (kw K k) C rec) (hv : V.Ok w0) (hc : C.Ok w0) {r g : Nat} (hr : r < k.rts.length) (hA : K.A2 = some ⟨g, 0, none⟩) (x : Int) :
    Cy w0 (w.setCell ⟨g, r * 4 + 2, none⟩ (.int .i64 x)) sb V (kw K (rset k r { rsAt k r with nxt := x })) C rec := by
  have := h.rcell hv hc (j := r) hr hA (k := 2) (by decide) x { k.rts[r] with nxt := x } rfl
  rw [rsAt_nat hr]
  exact this
theorem Cy.cell23 {w0 w : World} {sb : Nat} {V : Vm} {K : Km} {k : Kp} {C : Cm} {rec : Bool} (h : Cy w0 w sb V (kw K k) C rec) (hv : V.Ok w0) (hc : C.Ok w0) {r g : Nat} (hr : r < k.rts.length) (hA : K.A2 = some ⟨g, 0, none⟩) (x y : Int) :
    Cy w0 ((w.setCell ⟨g, r * 4 + 2, none⟩ (.int .i64 x)).setCell ⟨g, r * 4 + 3, none⟩ (.int .i64 y)) sb V (kw K (rset k r { rsAt k r with nxt := x, mark := y })) C rec := by
  have h2 := h.rcell hv hc (j := r) hr hA (k := 2) (by decide) x { k.rts[r] with nxt := x } rfl
  have h3 := h2.rcell hv hc (j := r) (k := 3) (by show r < (k.rts.set r _).length; rw [List.length_set]; exact hr) hA (by decide) y { k.rts[r] with nxt := x, mark := y } (by simp [cRs, kw])
  rw [rsAt_nat hr]
  have h4 : Cy w0 ((w.setCell ⟨g, r * 4 + 2, none⟩ (.int .i64 x)).setCell ⟨g, r * 4 + 3, none⟩ (.int .i64 y)) sb V (kw K { k with rts := (k.rts.set r { k.rts[r] with nxt := x }).set r { k.rts[r] with nxt := x, mark := y } }) C rec := h3
  rw [List.set_set] at h4
  exact h4
set_option maxRecDepth 100000 in
set_option maxHeartbeats 8000000 in
theorem giveBack_any {w0 w : World} {sb : Nat} {V : Vm} {K : Km} {k : Kp} {C : Cm} {rec : Bool} (h : Cy w0 w sb V (kw K k) C rec) (hv : V.Ok w0) (hc : C.Ok w0) (F : FitP C.cf k) (hs : Sees C V) (now : Int) {r : Nat} (hr : r < C.rs.length) :
    Calls Tryz.prog 162 #[.pointer (some ⟨sb, 0, none⟩), .int .i64 now, .int .i64 (r : Int)] w fun e w' => e = .returned (.tuple #[]) ∧ Cy w0 w' sb V (kw K (giveK C.cf V.vp now k r)) C rec := by
  have hl : r < k.rts.length := by have := F.l2; unfold Cm.cf at this; simp at this; omega
  have hrc : r < C.cf.rts.length := by unfold Cm.cf; simp; exact hr
  have R := rout_of F.chk hr
  have hT := (check_parts F.chk).2.2.2.2.2
  have hsm := right_small F.chk
  obtain ⟨m, hm4, hm, KL⟩ := nxt_line F.chk hr
  have KP := fun W (f : Fr (fun _ => False) w W) => path_any (h.fr f) hr
  have KO := fun W (f : Fr (fun _ => False) w W) (s : Nat) (q : s < k.own.length) => owns_any (h.fr f) (r := r) (s := s) R.small q
  have KB := fun W (f : Fr (fun _ => False) w W) (s : Nat) (q : s < V.occ.length) (t : Int) => clearBehind_any (age := C.tm.age) (h.fr f).vok q t
  have KE := fun W k2 (h2 : Cy w0 W sb V (kw K k2) C rec) (q1 : k2.rts.length = k.rts.length) (q2 : k2.own.length = k.own.length) (q3 : k2.lns.length = k.lns.length) => end_any h2 hv hc (r := r) (m := m) (by omega) R.small (by rw [q2, F.l1]; have := hsm.1; omega) (by rw [q3, F.l5]; exact hm4) (by rw [rt_cf hr]; exact hm) (fun W k' h3 => KL h3)
  have hx := rsB_iff.1 (F.rt_at hrc)
  rw [← rt_mem hrc, rt_cf hr] at hx
  simp only [Ro.rt] at hx
  have hpl : ∀ s ∈ pathL C.rs[r].rt, 0 ≤ s ∧ s < C.l.length := fun s q => by
    obtain ⟨x, hx, rfl⟩ := List.mem_map.1 q
    exact R.path x hx
  have hlen : (pathL C.rs[r].rt).length = C.rs[r].path.length := by show (C.rs[r].path.map St.sec).length = _; rw [List.length_map]
  have h8 := R.eight
  obtain ⟨n, hn⟩ := Int.eq_ofNat_of_zero_le hx.2.1.1
  have hnx : nxtSec C.cf k r = (pathL C.rs[r].rt).getD n 0 := by unfold nxtSec; rw [rt_cf hr, hn, Int.toNat_natCast]
  unfold timeB at hT
  simp only [Bool.and_eq_true, decide_eq_true_eq] at hT
  have hT : 0 ≤ C.tm.hold ∧ C.tm.hold ≤ 40 := by unfold Cm.cf at hT; dsimp only at hT; omega
  have hown : k.own.length = C.l.length := F.l1
  have hocc := hs.occ
  have hRS := rsAt_nat (k := k) hl
  -- the answer, by its ways
  have G1 : now < (rsAt k r).since + C.cf.tm.hold → giveK C.cf V.vp now k r = k := fun q => by unfold giveK; exact if_pos q
  have G2 : ¬ now < (rsAt k r).since + C.cf.tm.hold → ∀ k2, passK C.cf V.vp now k r = k2 → giveK C.cf V.vp now k r = if (rsAt k2 r).nxt = ((pathL C.rs[r].rt).length : Int) then doneK C.cf k2 r else k2 := fun q k2 e => by
    unfold giveK
    rw [if_neg q, e, hlen, rt_cf hr]
    rfl
  have P1 : n = (pathL C.rs[r].rt).length → passK C.cf V.vp now k r = k := fun q => by
    unfold passK
    rw [if_pos]
    rw [hn, q, hlen, rt_cf hr]
    rfl
  have P0 : n ≠ (pathL C.rs[r].rt).length → ¬ (rsAt k r).nxt = (rtAt C.cf r).path.length := fun q e => by
    rw [hn, rt_cf hr] at e
    have : (n : Int) = (C.rs[r].path.length : Int) := e
    omega
  have P2 : n ≠ (pathL C.rs[r].rt).length → ownAt k.own (nxtSec C.cf k r) ≠ (r : Int) + 1 → passK C.cf V.vp now k r = rset k r { rsAt k r with nxt := (n : Int) + 1 } := fun q q2 => by
    unfold passK
    rw [if_neg (P0 q), if_pos q2, hn]
  have P3 : n ≠ (pathL C.rs[r].rt).length → ownAt k.own (nxtSec C.cf k r) = (r : Int) + 1 → clbB V.vp.occ (nxtSec C.cf k r) (max ((rsAt k r).since + C.cf.tm.hold) (rsAt k r).mark) = true → passK C.cf V.vp now k r = rset (freeK k (nxtSec C.cf k r)) r { rsAt k r with nxt := (n : Int) + 1, mark := now } := fun q q2 q3 => by
    unfold passK
    rw [if_neg (P0 q), if_neg (fun h => h q2), if_pos q3, hn]
  have P4 : n ≠ (pathL C.rs[r].rt).length → ownAt k.own (nxtSec C.cf k r) = (r : Int) + 1 → ¬ clbB V.vp.occ (nxtSec C.cf k r) (max ((rsAt k r).since + C.cf.tm.hold) (rsAt k r).mark) = true → passK C.cf V.vp now k r = k := fun q q2 q3 => by
    unfold passK
    rw [if_neg (P0 q), if_neg (fun h => h q2), if_neg q3]
  have hn9 : n ≤ (pathL C.rs[r].rt).length := by omega
  have h89 : (pathL C.rs[r].rt).length ≤ 8 := by omega
  generalize hGK : giveK C.cf V.vp now k r = T at *
  generalize passK C.cf V.vp now k r = PK at *
  generalize nxtSec C.cf k r = NS at *
  generalize pathL C.rs[r].rt = L at *
  obtain ⟨g, hA, d0, d1, d2, d3, z0, z1, z2, z3⟩ := h.at2 (j := r) hl
  have hA : K.A2 = some ⟨g, 0, none⟩ := hA
  have c6 : w.cell? ⟨sb, 6, none⟩ = some (.slice K.A2 k.rts.length K.c2) := h.is.cell 6
  rw [hA] at c6
  have HS : Hid (∀ W, Fr (fun _ => False) w W → W.cell? ⟨sb, 6, none⟩ = some (.slice (some ⟨g, 0, none⟩) k.rts.length K.c2)) := Lib.hid fun W f => (f.cell (World.block_lt_of_cell? _ _ c6) id).trans c6
  have i1 : (0 : Int) ≤ (r : Int) := by omega
  have i2 : (r : Int) < (k.rts.length : Int) := by omega
  rw [hRS] at hn hx
  have HX : Hid ((0 ≤ k.rts[r].since ∧ k.rts[r].since ≤ 4294967295) ∧ 0 ≤ k.rts[r].mark ∧ k.rts[r].mark ≤ 4294967295) := Lib.hid hx.2.2
  have HN : Hid (k.rts[r].nxt = (n : Int)) := Lib.hid hn
  have HH := Lib.hid h
  have HA := Lib.hid hA
  have HKP := Lib.hid KP
  have HKO := Lib.hid KO
  have HKB := Lib.hid KB
  have HKE := Lib.hid KE
  have HPL := Lib.hid hpl
  have HHT := Lib.hid hT
  have HG1 := Lib.hid G1
  have HG2 := Lib.hid G2
  have HP1 := Lib.hid P1
  have HP2 := Lib.hid P2
  have HP3 := Lib.hid P3
  have HP4 := Lib.hid P4
  have HNX := Lib.hid hnx
  have HLN := Lib.hid (And.intro hn9 h89)
  have HOW := Lib.hid (And.intro hown hocc)
  have HRS := Lib.hid hRS
  clear h hA KP KO KB KE KL hpl hT G1 G2 P0 P1 P2 P3 P4 hnx hown hocc hRS F hs R hsm hr hrc hlen h8 hm hm4 hn9 h89 hGK hx hn c6
  go_enter Tryz.func162, Tryz.ntmps162
  go_upto_region 0 with fail
  have s0 := HS.out _ (Fr.refl _ w).drew
  have HF0 := Lib.hid (Fr.refl (fun _ => False) w).drew
  go_region_held3 (fun W => W.cell? ⟨sb, 6, none⟩ = some (.slice (some ⟨g, 0, none⟩) k.rts.length K.c2)) (first | with_reducible exact s0 | with_reducible exact s1) (first | (go_at_call 167; (with_reducible refine (HKP.out _ HF0.out).mono ?_); rintro _ w1 ⟨_, rfl, ⟨A1, q1, rfl, o1⟩, f1⟩; have HO1 := Lib.hid (wide_rd o1); have HF1 := Lib.hid (fr_nil HF0.out f1); have s1 := HS.out _ HF1.out; clear f1 o1))
  rename_i hHeld
  clear hHeld s0 s1 HF0 HS d0 d1 d2 d3 z0 z1 z2 z3 i1 i2
  have H1 := Lib.hid (HH.out.fr HF1.out)
  obtain ⟨d0, d1, d2, d3, z0, z1, z2, z3⟩ := H1.out.at2g hl HA.out
  have c19 : w1.cell? ⟨sb, 19, none⟩ = some (.int .i64 C.tm.hold) := H1.out.is.cell 19
  rw [HN.out] at d2
  obtain ⟨hd, hhd⟩ : ∃ hd, hd = k.rts[r].since + C.tm.hold := ⟨_, rfl⟩
  have ew : wrap64 (k.rts[r].since + C.tm.hold) = hd := by rw [IntWalk.wrap64_in _ ⟨by have := HX.out; have := HHT.out; omega, by have := HX.out; have := HHT.out; omega⟩, hhd]
  have HHD := Lib.hid hhd
  clear hhd
  go_upto_region 1 with fail
  go_quiet (fail)
  simp only [ew]
  have H2 := Lib.hid (H1.out.drewN nq)
  have HF2 := Lib.hid (HF1.out.drewN nq)
  have HF2b := Lib.hid ((Fr.refl (fun _ => False) w1).drewN nq)
  generalize w1.drewN nq = w2 at *
  clear d0 d1 d2 d3 z0 z1 z2 z3 c19 ew H1 HF1
  obtain ⟨d0, d1, d2, d3, z0, z1, z2, z3⟩ := H2.out.at2g hl HA.out
  rw [HN.out] at d2
  have HSI : Hid ((rsAt k r).since + C.cf.tm.hold = hd) := Lib.hid (by rw [HRS.out]; exact HHD.out.symm)
  by_cases q : now < hd
  · have e0 : decide (now < hd) = true := by simpa using q
    have HT9 : Hid (T = k) := Lib.hid (HG1.out (by rw [HSI.out]; omega))
    clear q
    go_wp2_with fail
    (try simp only [Exit.inBlock, Exit.then])
    refine bodyPost_ret (results_none rfl _ _ _) rfl ?_
    exact ⟨rfl, by rw [HT9.out]; exact H2.out⟩
  · have e0 : decide (now < hd) = false := decide_eq_false q
    have HG3 := Lib.hid (HG2.out (by rw [HSI.out]; omega))
    clear q
    by_cases q2 : n = L.length
    · have e1 : ((n : Int) == (L.length : Int)) = true := by rw [q2]; simp
      have HT9 : Hid (T = doneK C.cf k r) := Lib.hid ((HG3.out k (HP1.out q2)).trans (if_pos (by rw [HRS.out, HN.out, q2])))
      clear q2
      go_wp2_with fail
      refine (HKE.out _ _ H2.out rfl rfl rfl).mono ?_
      rintro e w9 ⟨rfl, HC⟩
      have HC := Lib.hid HC
      clear d0 d1 d2 d3 z0 z1 z2 z3
      go_wp2_with fail
      go_end0
      exact ⟨rfl, by rw [HT9.out]; exact HC.out⟩
    · have e1 : ((n : Int) == (L.length : Int)) = false := by
        have : ¬ ((n : Int) = (L.length : Int)) := by omega
        simpa using this
      have hnl : n < L.length := by have := HLN.out.1; omega
      obtain ⟨g1, o1, hA1, x0⟩ := rd_int (HO1.out.fr (HF2b.out) fun _ _ => id) hnl
      have hps := HPL.out L[n] (List.getElem_mem hnl)
      have hNS : NS = L[n] := by rw [HNX.out, List.getD_eq_getElem?_getD, List.getElem?_eq_getElem hnl]; rfl
      have HNL := Lib.hid hnl
      generalize L[n] = ls at *
      obtain ⟨s, rfl⟩ := Int.eq_ofNat_of_zero_le hps.1
      have hso : s < k.own.length := by have := HOW.out; omega
      have hsv : s < V.occ.length := by have := HOW.out; omega
      have j1 : (0 : Int) ≤ (n : Int) := by omega
      have j2 : (n : Int) < (L.length : Int) := by omega
      have j3 : wrap64 ((n : Int) + 1) = (n : Int) + 1 := IntWalk.wrap64_in _ ⟨by omega, by have := HLN.out.2; omega⟩
      subst hA1
      have KO : Calls Tryz.prog 204 #[.pointer (some ⟨sb, 0, none⟩), .int .i64 (r : Int), .int .i64 (s : Int)] w2 fun e w' => e = .returned (.bool (decide (ownAt k.own s = (r : Int) + 1))) ∧ w2 = w' := HKO.out _ HF2.out s hso
      have HQ2 := Lib.hid q2
      have HNS := Lib.hid hNS
      have HSO := Lib.hid (And.intro hso hsv)
      clear hnl hps hNS hso hsv q2
      by_cases q3 : ownAt k.own s = (r : Int) + 1
      · rw [decide_eq_true q3] at KO
        obtain ⟨mx, hmx⟩ : ∃ mx, mx = max hd k.rts[r].mark := ⟨_, rfl⟩
        have KB := HKB.out _ HF2.out s HSO.out.2 mx
        have HMX : Hid (max ((rsAt k r).since + C.cf.tm.hold) (rsAt k r).mark = mx) := Lib.hid (by rw [HSI.out, HRS.out, hmx])
        have HP3b := fun q5 => HP3.out HQ2.out (by rw [HNS.out]; exact q3) (by rw [HNS.out, HMX.out]; exact q5)
        have HP4b := fun q5 => HP4.out HQ2.out (by rw [HNS.out]; exact q3) (by rw [HNS.out, HMX.out]; exact q5)
        have KB : ∀ W, Fr (fun _ => False) w2 W → Calls Tryz.prog 163 #[.agg (eyeArr V C.tm.age), .int .i64 (s : Int), .int .i64 mx] W fun e w' => e = .returned (.bool (clbB V.vp.occ s mx)) ∧ Fr (fun _ => False) W w' := fun W f => HKB.out W (fr_nil HF2.out f) s HSO.out.2 mx
        have hmax : ∀ W, (Builtin.max_ #[3, 3] 3 #[.int .i64 hd, .int .i64 k.rts[r].mark]).run Tryz.prog W = .ok (.int .i64 mx) W := fun W => by
          have e : (Builtin.max_ #[3, 3] 3 #[.int .i64 hd, .int .i64 k.rts[r].mark]).run Tryz.prog W = .ok (.int .i64 (if k.rts[r].mark > hd then k.rts[r].mark else hd)) W := by simp [Builtin.max_, Builtin.max2]
          rw [e, hmx]
          congr 2
          split <;> omega
        generalize clbB V.vp.occ s mx = b at *
        unfold eyeArr at KB
        have HKB2 := Lib.hid KB
        have HM := Lib.hid hmax
        have HP3c := Lib.hid HP3b
        have HP4c := Lib.hid HP4b
        clear KB hmax hmx HP3b HP4b q3
        go_wp2_with fail
        refine KO.mono ?_
        clear KO
        rintro e w3 ⟨rfl, rfl⟩
        go_upto_region 6 with fail
        obtain ⟨c0, c1, c2, c3, c4⟩ := H2.out.eye5
        have D2 := cell_fro d2
        have D3 := cell_fro d3
        have X0 := cell_fro x0
        have c0 := cell_fro c0
        have c1 := cell_fro c1
        have c2 := cell_fro c2
        have c3 := cell_fro c3
        have c4 := cell_fro c4
        have hmax := HM.out
        have HKB3 := fun (u : Fro w2) => HKB2.out u.w u.f
        clear d0 d1 d2 d3 z0 z1 z2 z3 x0
        refine region_fro (by kernel_rfl) (by kernel_rfl) ?_
        repeat (go_big_quiet_step (first | (go_at_call 163; with_reducible exact call_fro (HKB3 _))))
        refine wpQuiet_nil ?_
        rintro w4 ⟨⟨w9, f4⟩, hww⟩
        replace hww : w4 = w9 := hww
        subst hww
        have H4 := Lib.hid (H2.out.fr f4)
        have x0 : w4.cell? ⟨g1, o1 + n, none⟩ = some (.int .i64 (s : Int)) := X0 ⟨w4, f4⟩
        clear D2 D3 X0 c0 c1 c2 c3 c4 hmax HKB3 f4
        cases b
        · obtain ⟨d0, d1, d2, d3, z0, z1, z2, z3⟩ := H4.out.at2g hl HA.out
          rw [HN.out] at d2
          have HT9 : Hid (T = k) := Lib.hid ((HG3.out k (HP4c.out (by decide))).trans (if_neg (by rw [HRS.out, HN.out]; have := HQ2.out; omega)))
          go_wp2_with fail
          go_end0
          exact ⟨rfl, by rw [HT9.out]; exact H4.out⟩
        · have HP := Lib.hid (HP3c.out rfl)
          have KF := free_any H4.out hv hc HSO.out.1
          have hrl : rsAt (rset (freeK k NS) r { rsAt k r with nxt := (n : Int) + 1, mark := now }) r = { rsAt k r with nxt := (n : Int) + 1, mark := now } := rsAt_rset (k := freeK k NS) hl
          by_cases q4 : n + 1 = L.length
          · have e2 : ((n : Int) + 1 == (L.length : Int)) = true := by
              have : (n : Int) + 1 = (L.length : Int) := by omega
              simpa using this
            have HT9 : Hid (T = doneK C.cf (rset (freeK k NS) r { rsAt k r with nxt := (n : Int) + 1, mark := now }) r) := Lib.hid ((HG3.out _ HP.out).trans (if_pos (by rw [hrl]; show (n : Int) + 1 = _; omega)))
            clear q4 hrl
            obtain ⟨-, -, d2, -⟩ := H4.out.at2g hl HA.out
            rw [HN.out] at d2
            go_wp2_with fail
            refine KF.mono ?_
            clear KF x0 d2
            rintro e w5 ⟨rfl, H5⟩
            obtain ⟨d0, d1, dd, d3, z0, z1, z2, z3⟩ := H5.at2g (j := r) hl HA.out
            have d2 : w5.cell? ⟨g, r * 4 + 2, none⟩ = some (.int .i64 (n : Int)) := by rw [dd]; show some (Value.int .i64 k.rts[r].nxt) = _; rw [HN.out]
            clear dd
            have H6 := Lib.hid (H5.cell23 hv hc (r := r) hl HA.out ((n : Int) + 1) now)
            have hl6 : r < (rset (freeK k s) r { rsAt (freeK k s) r with nxt := (n : Int) + 1, mark := now }).rts.length := by show r < (k.rts.set r _).length; rw [List.length_set]; exact hl
            go_upto_region 10 with fail
            have H7 := H6
            generalize (w5.setCell ⟨g, r * 4 + 2, none⟩ (.int .i64 ((n : Int) + 1))).setCell ⟨g, r * 4 + 3, none⟩ (.int .i64 now) = w6 at *
            have d6 : w6.cell? ⟨g, r * 4 + 2, none⟩ = some (.int .i64 ((n : Int) + 1)) := by
              obtain ⟨-, -, y, -⟩ := H7.out.at2g (j := r) hl6 HA.out
              rw [y]
              show some (Value.int .i64 ((k.rts.set r { rsAt (freeK k s) r with nxt := (n : Int) + 1, mark := now })[r]'(by rw [List.length_set]; exact hl)).nxt) = _
              rw [List.getElem_set_self]
            clear H5 H6 hl6 d0 d1 d2 d3 z0 z1 z2 z3
            have H6 := H7
            go_wp2_with fail
            refine (HKE.out _ _ H6.out (by show (k.rts.set r _).length = _; rw [List.length_set]) (by show (k.own.set _ _).length = _; rw [List.length_set]) rfl).mono ?_
            rintro e w9 ⟨rfl, HC⟩
            have HC := Lib.hid HC
            clear d6
            go_wp2_with fail
            go_end0
            exact ⟨rfl, by rw [HT9.out, HNS.out]; exact HC.out⟩
          · have e2 : ((n : Int) + 1 == (L.length : Int)) = false := by
              have : ¬ ((n : Int) + 1 = (L.length : Int)) := by omega
              simpa using this
            have HT9 : Hid (T = rset (freeK k NS) r { rsAt k r with nxt := (n : Int) + 1, mark := now }) := Lib.hid ((HG3.out _ HP.out).trans (if_neg (by rw [hrl]; show ¬ (n : Int) + 1 = _; omega)))
            clear q4 hrl
            obtain ⟨-, -, d2, -⟩ := H4.out.at2g hl HA.out
            rw [HN.out] at d2
            go_wp2_with fail
            refine KF.mono ?_
            clear KF x0 d2
            rintro e w5 ⟨rfl, H5⟩
            obtain ⟨d0, d1, dd, d3, z0, z1, z2, z3⟩ := H5.at2g (j := r) hl HA.out
            have d2 : w5.cell? ⟨g, r * 4 + 2, none⟩ = some (.int .i64 (n : Int)) := by rw [dd]; show some (Value.int .i64 k.rts[r].nxt) = _; rw [HN.out]
            clear dd
            have H6 := Lib.hid (H5.cell23 hv hc (r := r) hl HA.out ((n : Int) + 1) now)
            have hl6 : r < (rset (freeK k s) r { rsAt (freeK k s) r with nxt := (n : Int) + 1, mark := now }).rts.length := by show r < (k.rts.set r _).length; rw [List.length_set]; exact hl
            go_upto_region 10 with fail
            have H7 := H6
            generalize (w5.setCell ⟨g, r * 4 + 2, none⟩ (.int .i64 ((n : Int) + 1))).setCell ⟨g, r * 4 + 3, none⟩ (.int .i64 now) = w6 at *
            have d6 : w6.cell? ⟨g, r * 4 + 2, none⟩ = some (.int .i64 ((n : Int) + 1)) := by
              obtain ⟨-, -, y, -⟩ := H7.out.at2g (j := r) hl6 HA.out
              rw [y]
              show some (Value.int .i64 ((k.rts.set r { rsAt (freeK k s) r with nxt := (n : Int) + 1, mark := now })[r]'(by rw [List.length_set]; exact hl)).nxt) = _
              rw [List.getElem_set_self]
            clear H5 H6 hl6 d0 d1 d2 d3 z0 z1 z2 z3
            have H6 := H7
            go_wp2_with fail
            go_end0
            exact ⟨rfl, by rw [HT9.out, HNS.out]; exact H6.out⟩
      · rw [decide_eq_false q3] at KO
        have HP := Lib.hid (HP2.out HQ2.out (by rw [HNS.out]; exact q3))
        have H3 := Lib.hid (H2.out.cell2 hv hc hl HA.out ((n : Int) + 1))
        have hrl : rsAt (rset k r { rsAt k r with nxt := (n : Int) + 1 }) r = { rsAt k r with nxt := (n : Int) + 1 } := rsAt_rset hl
        clear q3
        by_cases q4 : n + 1 = L.length
        · have e2 : ((n : Int) + 1 == (L.length : Int)) = true := by
            have : (n : Int) + 1 = (L.length : Int) := by omega
            simpa using this
          have HT9 : Hid (T = doneK C.cf (rset k r { rsAt k r with nxt := (n : Int) + 1 }) r) := Lib.hid ((HG3.out _ HP.out).trans (if_pos (by rw [hrl]; show (n : Int) + 1 = _; omega)))
          clear q4 hrl
          go_wp2_with fail
          refine KO.mono ?_
          clear KO
          rintro e w3 ⟨rfl, rfl⟩
          go_wp2_with fail
          refine (HKE.out _ _ H3.out (by show (k.rts.set r _).length = _; rw [List.length_set]) rfl rfl).mono ?_
          rintro e w9 ⟨rfl, HC⟩
          have HC := Lib.hid HC
          clear d0 d1 d2 d3 z0 z1 z2 z3
          go_wp2_with fail
          go_end0
          exact ⟨rfl, by rw [HT9.out]; exact HC.out⟩
        · have e2 : ((n : Int) + 1 == (L.length : Int)) = false := by
            have : ¬ ((n : Int) + 1 = (L.length : Int)) := by omega
            simpa using this
          have HT9 : Hid (T = rset k r { rsAt k r with nxt := (n : Int) + 1 }) := Lib.hid ((HG3.out _ HP.out).trans (if_neg (by rw [hrl]; show ¬ (n : Int) + 1 = _; omega)))
          clear q4 hrl
          go_wp2_with fail
          refine KO.mono ?_
          clear KO
          rintro e w3 ⟨rfl, rfl⟩
          go_wp2_with fail
          go_end0
          exact ⟨rfl, by rw [HT9.out]; exact H3.out⟩
end Go.Proofs.YtginfnbdnkgjbaaGreat.Nk
/- Each route goes on, as far as it may. -/
namespace Go.Proofs.YtginfnbdnkgjbaaGreat.Nk
open Go.RowKit Lk

set_option maxRecDepth 100000 in
set_option maxHeartbeats 8000000 in
theorem goOn_any {w0 w : World} {sb : Nat} {V : Vm} {K : Km} {k : Kp} {C : Cm} {rec : Bool} (h : Cy w0 w sb V (kw K k) C rec) (hv : V.Ok w0) (hc : C.Ok w0) (F : FitP C.cf k) (hs : Sees C V) {now : Int} (hn : tmB now = true) :
    Calls Tryz.prog 97 #[.pointer (some ⟨sb, 0, none⟩), .int .i64 now] w fun e w' => e = .returned (.tuple #[]) ∧ Cy w0 w' sb V (kw K (goAll C.cf V.vp rec now k C.rs.length)) C rec := by
  have hl : k.rts.length = C.rs.length := by have := F.l2; unfold Cm.cf at this; simpa using this
  have hcl : C.cf.rts.length = C.rs.length := by unfold Cm.cf; simp
  have h12 : C.rs.length ≤ 12 := by have := (right_small F.chk).2.2; omega
  have FA := fun n (q : n ≤ C.rs.length) => goAll_fit (v := V.vp) (rec := rec) F hn n (by omega)
  have c6 : w.cell? ⟨sb, 6, none⟩ = some (.slice K.A2 k.rts.length K.c2) := h.is.cell 6
  rw [hl] at c6
  have HH := Lib.hid h
  have HFA := Lib.hid FA
  have HL := Lib.hid (And.intro hl h12)
  clear h F FA hl hcl hn h12
  go_enter Tryz.func97, Tryz.ntmps97
  go_wp2_with fail
  clear c6
  go_loopg [4, 5, 12] C.rs.length (fun gi _ _ v12 wr => ∃ (j : Nat), j ≤ C.rs.length ∧ gi = C.rs.length - j ∧ v12 = .int .i64 (j : Nat) ∧ Cy w0 wr sb V (kw K (goAll C.cf V.vp rec now k j)) C rec)
  case atStart => exact ⟨0, Nat.zero_le _, rfl, rfl, HH.out⟩
  case round =>
    clear HH
    obtain ⟨j, hj, rfl, rfl, HC⟩ := hrel
    by_cases hlt : j < C.rs.length
    · have hsucc := goAll_succ C.cf V.vp rec now k j
      have FJ := HFA.out j hj
      have hlen : (goAll C.cf V.vp rec now k j).rts.length = C.rs.length := ((goAll_len ..).1).trans HL.out.1
      generalize goAll C.cf V.vp rec now k j = kj at *
      have hjl : j < kj.rts.length := by omega
      obtain ⟨g, hA, t0, t1, t2, t3, -⟩ := HC.at2 (j := j) hjl
      have hA : K.A2 = some ⟨g, 0, none⟩ := hA
      have hra := rsAt_nat (k := kj) hjl
      have d0 : wr.cell? ⟨g, j * 4, none⟩ = some (.int .i64 kj.rts[j].st) := t0
      have d1 : wr.cell? ⟨g, j * 4 + 1, none⟩ = some (.int .i64 kj.rts[j].since) := t1
      have d2 : wr.cell? ⟨g, j * 4 + 2, none⟩ = some (.int .i64 kj.rts[j].nxt) := t2
      have d3 : wr.cell? ⟨g, j * 4 + 3, none⟩ = some (.int .i64 kj.rts[j].mark) := t3
      rw [← hra] at d0 d1 d2 d3
      clear t0 t1 t2 t3
      rw [hA]
      have HA := Lib.hid hA
      have HJ := Lib.hid (And.intro hlt hjl)
      have i1 : (0 : Int) ≤ (j : Int) := by omega
      have i2 : (j : Int) < (C.rs.length : Int) := by omega
      have hbb := HL.out.2
      have HX := Lib.hid (HC.fr ((Fr.refl (fun _ => False) wr).alloc (.cells #[.int .i64 (rsAt kj j).st, .int .i64 (rsAt kj j).since, .int .i64 (rsAt kj j).nxt, .int .i64 (rsAt kj j).mark] 46)))
      have HFJ := Lib.hid FJ
      have hbr := (Is.new wr 46 #[.int .i64 (rsAt kj j).st, .int .i64 (rsAt kj j).since, .int .i64 (rsAt kj j).nxt, .int .i64 (rsAt kj j).mark]).cell 0
      unfold goK at hsucc
      clear hlt hjl hj hlen hra hA HC FJ
      go_upto_region 3 with fail
      clear d0 d1 d2 d3
      generalize wr.alloc _ = w1 at *
      generalize wr.heap.size = zb at *
      have hb0 : w1.cell? ⟨zb, 0, none⟩ = some (.int .i64 (rsAt kj j).st) := hbr
      clear hbr
      by_cases s1 : (rsAt kj j).st = 1
      · rw [if_pos s1] at hsucc
        rw [s1] at hb0
        have HK := Lib.hid hsucc
        clear hsucc s1
        go_wp2_with fail
        refine (clearSignal_any HX.out hv hc HFJ.out hs HJ.out.1).mono ?_
        rintro e w2 ⟨rfl, HC⟩
        have HC := Lib.hid HC
        clear hb0
        go_wp2_with fail
        rw [← HA.out]
        go_roundg (C.rs.length - (j + 1))
        case measure => have := HJ.out; omega
        case rel => exact ⟨j + 1, HJ.out.1, rfl, by go_num, by rw [HK.out]; exact HC.out⟩
      · rw [if_neg s1] at hsucc
        by_cases s2 : (rsAt kj j).st = 2 ∨ (rsAt kj j).st = 3
        · rw [if_pos s2] at hsucc
          have HK := Lib.hid hsucc
          have KX := holdSignal_any HX.out hv hc HFJ.out hs now HJ.out.1
          rcases s2 with s2 | s2
          all_goals
            rw [s2] at hb0
            clear hsucc s1
            have HS2 := Lib.hid s2
            clear s2
            go_wp2_with fail
            refine KX.mono ?_
            clear KX
            rintro e w2 ⟨rfl, HC⟩
            have HC := Lib.hid HC
            clear hb0
            go_wp2_with fail
            rw [← HA.out]
            go_roundg (C.rs.length - (j + 1))
            case measure => have := HJ.out; omega
            case rel => exact ⟨j + 1, HJ.out.1, rfl, by go_num, by rw [HK.out]; exact HC.out⟩
        · rw [if_neg s2] at hsucc
          by_cases s4 : (rsAt kj j).st = 4
          · rw [if_pos s4] at hsucc
            rw [s4] at hb0
            have HK := Lib.hid hsucc
            clear hsucc s1 s2 s4
            go_wp2_with fail
            refine (giveBack_any HX.out hv hc HFJ.out hs now HJ.out.1).mono ?_
            rintro e w2 ⟨rfl, HC⟩
            have HC := Lib.hid HC
            clear hb0
            go_wp2_with fail
            rw [← HA.out]
            go_roundg (C.rs.length - (j + 1))
            case measure => have := HJ.out; omega
            case rel => exact ⟨j + 1, HJ.out.1, rfl, by go_num, by rw [HK.out]; exact HC.out⟩
          · rw [if_neg s4] at hsucc
            have HK := Lib.hid hsucc
            have e1 : ((rsAt kj j).st == 1) = false := by simpa using s1
            have e2 : ((rsAt kj j).st == 2) = false := by simp; omega
            have e3 : ((rsAt kj j).st == 3) = false := by simp; omega
            have e4 : ((rsAt kj j).st == 4) = false := by simpa using s4
            generalize (rsAt kj j).st = x at *
            clear hsucc s1 s2 s4
            go_wp2_with fail
            rw [← HA.out]
            go_roundg (C.rs.length - (j + 1))
            case measure => have := HJ.out; omega
            case rel => exact ⟨j + 1, HJ.out.1, rfl, by go_num, by rw [HK.out]; exact HX.out⟩
    · have hje : C.rs.length = j := by omega
      rw [← hje] at HC
      have HC := Lib.hid HC
      clear hlt hj
      go_wp2_with fail
      go_end0
      exact ⟨rfl, HC.out⟩
end Go.Proofs.YtginfnbdnkgjbaaGreat.Nk
/- Crossings are commanded; resets are done. -/
namespace Go.Proofs.YtginfnbdnkgjbaaGreat.Nk
open Go.RowKit Lk

theorem crs_in {c : Cf} (h : checkE c = 0) : ∀ s ∈ c.crs, 0 ≤ s ∧ s < c.secs.length := by
  obtain ⟨-, -, h3, -⟩ := check_parts h
  rw [Bool.and_eq_true] at h3
  have key : ∀ l : List Int, crsB c.secs l = true → ∀ s ∈ l, isSecB c.secs.length s = true := fun l => by
    induction l with
    | nil => intro _ s hs; cases hs
    | cons x r ih =>
      intro h s hs
      unfold crsB at h
      simp only [Bool.and_eq_true] at h
      rcases List.mem_cons.1 hs with rfl | hs
      · exact h.1
      · exact ih h.2.2.2 s hs
  exact fun s hs => sec_iff (key _ h3.2 s hs)
theorem Cy.at4g {w0 w : World} {sb : Nat} {V : Vm} {K : Km} {k : Kp} {C : Cm} {rec : Bool} (h : Cy w0 w sb V (kw K k) C rec) {j g : Nat} (hj : j < k.crs.length) (hA : K.A4 = some ⟨g, 0, none⟩) : w.cell? ⟨sb, 8, none⟩ = some (.slice (some ⟨g, 0, none⟩) k.crs.length K.c4) ∧ w.cell? ⟨g, j * 2, none⟩ = some (.int .i64 k.crs[j].cmd) ∧ w.cell? ⟨g, j * 2 + 1, none⟩ = some (.int .i64 k.crs[j].oth) := by
  obtain ⟨g', e, c0, c1, -⟩ := h.at4 (j := j) hj
  have e : K.A4 = some ⟨g', 0, none⟩ := e
  have c8 : w.cell? ⟨sb, 8, none⟩ = some (.slice K.A4 k.crs.length K.c4) := h.is.cell 8
  rw [hA] at e c8
  injection e with e
  injection e with e
  subst e
  exact ⟨c8, c0, c1⟩
theorem Cy.free4 {w0 w : World} {sb : Nat} {V : Vm} {K : Km} {k : Kp} {C : Cm} {rec : Bool} (h : Cy w0 w sb V (kw K k) C rec) {j g : Nat} (hj : j < k.crs.length) (hA : K.A4 = some ⟨g, 0, none⟩) : ∃ a b, w.cell? ⟨g, j * 2, none⟩ = some a ∧ w.cell? ⟨g, j * 2 + 1, none⟩ = some b ∧ w.frozen? ⟨g, j * 2, none⟩ = false ∧ w.frozen? ⟨g, j * 2 + 1, none⟩ = false := by
  obtain ⟨g', e, c0, c1, z0, z1⟩ := h.at4 (j := j) hj
  have e : K.A4 = some ⟨g', 0, none⟩ := e
  rw [hA] at e
  injection e with e
  injection e with e
  subst e
  exact ⟨_, _, c0, c1, z0, z1⟩
set_option maxRecDepth 100000 in
set_option maxHeartbeats 8000000 in
theorem crossings_any {w0 w : World} {sb : Nat} {V : Vm} {K : Km} {k : Kp} {C : Cm} {rec : Bool} (h : Cy w0 w sb V (kw K k) C rec) (hv : V.Ok w0) (hc : C.Ok w0) (F : FitP C.cf k) (now : Int) :
    Calls Tryz.prog 98 #[.pointer (some ⟨sb, 0, none⟩), .int .i64 now] w fun e w' => e = .returned (.tuple #[]) ∧ Cy w0 w' sb V (kw K (crossAll C.cf now k C.cr.length)) C rec := by
  have hl : k.crs.length = C.cr.length := F.l4
  have hlo : k.own.length = C.l.length := F.l1
  have h4 : C.cr.length ≤ 4 := (right_small F.chk).2.1
  have hin : ∀ s ∈ C.cr, 0 ≤ s ∧ s < C.l.length := crs_in F.chk
  have c15 : w.cell? ⟨sb, 15, none⟩ = some (.slice C.A4 C.cr.length C.c4) := h.is.cell 15
  have HH := Lib.hid h
  have HL := Lib.hid (And.intro hl (And.intro hlo h4))
  have HIN := Lib.hid hin
  clear h F hl hlo h4 hin
  go_enter Tryz.func98, Tryz.ntmps98
  go_wp2_with fail
  clear c15
  go_loopg [4, 5, 6, 13] C.cr.length (fun gi _ _ _ v13 wr => ∃ (j : Nat), j ≤ C.cr.length ∧ gi = C.cr.length - j ∧ v13 = .int .i64 (j : Nat) ∧ Cy w0 wr sb V (kw K (crossAll C.cf now k j)) C rec)
  case atStart => exact ⟨0, Nat.zero_le _, rfl, rfl, HH.out⟩
  case round =>
    clear HH
    obtain ⟨j, hj, rfl, rfl, HC⟩ := hrel
    by_cases hlt : j < C.cr.length
    · have hsucc := crossAll_succ C.cf now k j
      have hsm := crossAll_same C.cf now k j
      have hcl := (crossAll_crl C.cf now k j).1
      obtain ⟨gp, op, ea, p0⟩ := rd_int HC.cok.crs hlt
      have hx := HIN.out C.cr[j] (List.getElem_mem hlt)
      have hcd : C.cf.crs.getD j 0 = C.cr[j] := by show C.cr.getD j 0 = _; rw [List.getD_eq_getElem?_getD, List.getElem?_eq_getElem hlt]; rfl
      unfold crossK at hsucc
      rw [hcd] at hsucc
      generalize C.cr[j] = x at *
      obtain ⟨s, rfl⟩ := Int.eq_ofNat_of_zero_le hx.1
      generalize crossAll C.cf now k j = kj at *
      have hjl : j < kj.crs.length := by have := HL.out; omega
      have hso : s < kj.own.length := by rw [hsm.1]; have := HL.out; omega
      obtain ⟨go', hAo, wq, -⟩ := HC.at1 (j := s) hso
      have hAo : K.A1 = some ⟨go', 0, none⟩ := hAo
      have w0c : wr.cell? ⟨go', s, none⟩ = some (.int .i64 (kj.own[s]'hso)) := wq
      have hov : ownAt kj.own s = kj.own[s] := ownAt_get hso
      rw [← hov] at w0c
      clear wq
      have c5 : wr.cell? ⟨sb, 5, none⟩ = some (.slice K.A1 kj.own.length K.c1) := HC.is.cell 5
      rw [hAo] at c5
      obtain ⟨g, hA, -⟩ := HC.at4 (j := j) hjl
      have hA : K.A4 = some ⟨g, 0, none⟩ := hA
      have hy : kj.crs.getD j default = kj.crs[j] := by rw [List.getD_eq_getElem?_getD, List.getElem?_eq_getElem hjl]; rfl
      rw [hy] at hsucc
      obtain ⟨c8, d0, d1⟩ := HC.at4g hjl hA
      have hcr : kj.crs.length = C.cr.length := by have := HL.out; omega
      have hset := fun (W : World) (hW : Cy w0 W sb V (kw K kj) C rec) (x : Mo) => hW.cross hv hc (j := j) hjl hA x
      have hat := fun (W : World) (f : Fr (fun _ => False) wr W) => (HC.fr f).at4g hjl hA
      have hat2 := fun (W : World) (x : Mo) (hW : Cy w0 W sb V (kw K { kj with crs := kj.crs.set j x }) C rec) => (hW.at4g (j := j) (by show j < (kj.crs.set j x).length; rw [List.length_set]; exact hjl) hA).1
      unfold cmdM at hsucc
      generalize hyy : kj.crs[j] = y at *
      obtain ⟨yc, yo⟩ := y
      dsimp only at hsucc d0 d1 hat
      rw [hcr] at c8 hat
      have i1 : (0 : Int) ≤ (j : Int) := by omega
      have i2 : (j : Int) < (C.cr.length : Int) := by omega
      have i3 : (0 : Int) ≤ (s : Int) := by omega
      have i4 : (s : Int) < (kj.own.length : Int) := by omega
      have hbb := HL.out.2.2
      rw [ea]
      have HEA := Lib.hid ea
      have HJ := Lib.hid hlt
      have HX := Lib.hid HC
      have HSET := Lib.hid hset
      have HAT := Lib.hid hat
      have HAT2 := Lib.hid hat2
      have hfr := fun (W : World) (hW : Cy w0 W sb V (kw K kj) C rec) => hW.free4 hjl hA
      have HFR := Lib.hid hfr
      clear hfr
      have HLZ : Hid (∀ x : Mo, (kj.crs.set j x).length = C.cr.length) := Lib.hid fun x => by rw [List.length_set]; exact hcr
      by_cases ho : ownAt kj.own s = 0
      · rw [ho] at w0c
        rw [if_pos ho] at hsucc
        clear ho
        generalize hd : (if yc = 2 then yo else now) = d at hsucc
        have KC := fun W => Mv.command_any yc yo now 2 W
        rw [hd] at KC
        have HSU := Lib.hid hsucc
        have HKC := Lib.hid KC
        clear hd KC hsucc hset hat hat2 hyy hcr hy hov hAo hA ea hso hjl hsm hcl hx hcd hlt hj HC
        go_upto_region 6 with fail
        have HS : Hid (∀ W, Fr (fun _ => False) wr W → W.cell? ⟨sb, 8, none⟩ = some (.slice (some ⟨g, 0, none⟩) C.cr.length K.c4)) := Lib.hid fun W f => (HAT.out W f).1
        clear p0 w0c c5 c8 i3 i4
        --BEGIN 2
        refine wp_region_held_drew (S := (fun Wx => Wx.cell? ⟨sb, 8, none⟩ = some (.slice (some ⟨g, 0, none⟩) C.cr.length K.c4))) (by kernel_rfl) (HS.out _ (Fr.refl _ wr).drew) (fun hHeld => ?_)
        refine wpAnyH_take (i := 0) (oi := { dst := some 27, op := _, type := _, pos := _, after := _, guard := _ }) (v := ?_) rfl (by kernel_rfl) (by kernel_rfl) (by kernel_rfl) (fun _ _ _ h => h) (Or.inl ⟨by rfl, ?_⟩) (by assumption) ?_
        rotate_left
        · intro Wx hSw
          try dsimp only at hSw
          go_simp
          try with_reducible rfl
        try simp only [Act.put, List.setIfInBounds_toArray, List.set_cons_zero, List.set_cons_succ]
        refine wpAnyH_take (i := 1) (oi := { dst := some 28, op := _, type := _, pos := _, after := _, guard := _ }) (v := ?_) rfl (by kernel_rfl) (by kernel_rfl) (by kernel_rfl) (fun _ _ _ h => h) (Or.inl ⟨by rfl, ?_⟩) (by assumption) ?_
        rotate_left
        · intro Wx hSw
          try dsimp only at hSw
          go_simp
          try with_reducible rfl
        try simp only [Act.put, List.setIfInBounds_toArray, List.set_cons_zero, List.set_cons_succ]
        refine wpAnyH_take (i := 2) (oi := { dst := some 29, op := _, type := _, pos := _, after := _, guard := _ }) (v := ?_) rfl (by kernel_rfl) (by kernel_rfl) (by kernel_rfl) (fun _ _ _ h => h) (Or.inl ⟨by rfl, ?_⟩) (by assumption) ?_
        rotate_left
        · intro Wx hSw
          try dsimp only at hSw
          go_simp
          try with_reducible rfl
        try simp only [Act.put, List.setIfInBounds_toArray, List.set_cons_zero, List.set_cons_succ]
        refine wpAnyH_take (i := 3) (oi := { dst := some 30, op := _, type := _, pos := _, after := _, guard := _ }) (v := ?_) rfl (by kernel_rfl) (by kernel_rfl) (by kernel_rfl) (fun _ _ _ h => h) (Or.inl ⟨by rfl, ?_⟩) (by assumption) ?_
        rotate_left
        · intro Wx hSw
          try dsimp only at hSw
          go_simp
          try with_reducible rfl
        try simp only [Act.put, List.setIfInBounds_toArray, List.set_cons_zero, List.set_cons_succ]
        refine wpAnyH_take (i := 4) (oi := { dst := some 31, op := _, type := _, pos := _, after := _, guard := _ }) (v := ?_) rfl (by kernel_rfl) (by kernel_rfl) (by kernel_rfl) (fun _ _ _ h => h) (Or.inl ⟨by rfl, ?_⟩) (by assumption) ?_
        rotate_left
        · intro Wx hSw
          try dsimp only at hSw
          go_simp
          try with_reducible rfl
        try simp only [Act.put, List.setIfInBounds_toArray, List.set_cons_zero, List.set_cons_succ]
        refine wpAnyH_take (i := 5) (oi := { dst := some 32, op := _, type := _, pos := _, after := _, guard := _ }) (v := ?_) rfl (by kernel_rfl) (by kernel_rfl) (by kernel_rfl) (fun _ _ _ h => h) (Or.inl ⟨by rfl, ?_⟩) (by assumption) ?_
        rotate_left
        · intro Wx hSw
          try dsimp only at hSw
          go_simp
          try with_reducible rfl
        try simp only [Act.put, List.setIfInBounds_toArray, List.set_cons_zero, List.set_cons_succ]
        refine wpAnyH_take (i := 6) (oi := { dst := some 33, op := _, type := _, pos := _, after := _, guard := _ }) (v := ?_) rfl (by kernel_rfl) (by kernel_rfl) (by kernel_rfl) (fun _ _ _ h => h) (Or.inl ⟨by rfl, ?_⟩) (by assumption) ?_
        rotate_left
        · intro Wx hSw
          try dsimp only at hSw
          go_simp
          try with_reducible rfl
        try simp only [Act.put, List.setIfInBounds_toArray, List.set_cons_zero, List.set_cons_succ]
        refine wpAnyH_take (i := 7) (oi := { dst := some 34, op := _, type := _, pos := _, after := _, guard := _ }) (v := ?_) rfl (by kernel_rfl) (by kernel_rfl) (by kernel_rfl) (fun _ _ _ h => h) (Or.inl ⟨by rfl, ?_⟩) (by assumption) ?_
        rotate_left
        · intro Wx hSw
          try dsimp only at hSw
          go_simp
          try with_reducible rfl
        try simp only [Act.put, List.setIfInBounds_toArray, List.set_cons_zero, List.set_cons_succ]
        refine wpAnyH_take (i := 8) (oi := { dst := some 35, op := _, type := _, pos := _, after := _, guard := _ }) (v := ?_) rfl (by kernel_rfl) (by kernel_rfl) (by kernel_rfl) (fun _ _ _ h => h) (Or.inl ⟨by rfl, ?_⟩) (by assumption) ?_
        rotate_left
        · intro Wx hSw
          try dsimp only at hSw
          go_simp
          try with_reducible rfl
        try simp only [Act.put, List.setIfInBounds_toArray, List.set_cons_zero, List.set_cons_succ]
        refine wpAnyH_take (i := 9) (oi := { dst := some 36, op := _, type := _, pos := _, after := _, guard := _ }) (v := ?_) rfl (by kernel_rfl) (by kernel_rfl) (by kernel_rfl) (fun _ _ _ h => h) (Or.inl ⟨by rfl, ?_⟩) (by assumption) ?_
        rotate_left
        · intro Wx hSw
          try dsimp only at hSw
          go_simp
          try with_reducible rfl
        try simp only [Act.put, List.setIfInBounds_toArray, List.set_cons_zero, List.set_cons_succ]
        refine wpAnyH_take (i := 10) (oi := { dst := some 37, op := _, type := _, pos := _, after := _, guard := _ }) (v := ?_) rfl (by kernel_rfl) (by kernel_rfl) (by kernel_rfl) (fun _ _ _ h => h) (Or.inl ⟨by rfl, ?_⟩) (by assumption) ?_
        rotate_left
        · intro Wx hSw
          try dsimp only at hSw
          go_simp
          try with_reducible rfl
        try simp only [Act.put, List.setIfInBounds_toArray, List.set_cons_zero, List.set_cons_succ]
        refine wpAnyH_take (i := 11) (oi := { dst := some 38, op := _, type := _, pos := _, after := _, guard := _ }) (v := ?_) rfl (by kernel_rfl) (by kernel_rfl) (by kernel_rfl) (fun _ _ _ h => h) (Or.inl ⟨by rfl, ?_⟩) (by assumption) ?_
        rotate_left
        · intro Wx hSw
          try dsimp only at hSw
          go_simp
          try with_reducible rfl
        try simp only [Act.put, List.setIfInBounds_toArray, List.set_cons_zero, List.set_cons_succ]
        refine wpAnyH_take (i := 12) (oi := { dst := some 39, op := _, type := _, pos := _, after := _, guard := _ }) (v := ?_) rfl (by kernel_rfl) (by kernel_rfl) (by kernel_rfl) (fun _ _ _ h => h) (Or.inl ⟨by rfl, ?_⟩) (by assumption) ?_
        rotate_left
        · intro Wx hSw
          try dsimp only at hSw
          go_simp
          try with_reducible rfl
        try simp only [Act.put, List.setIfInBounds_toArray, List.set_cons_zero, List.set_cons_succ]
        refine wpAnyH_take (i := 14) (oi := { dst := some 41, op := _, type := _, pos := _, after := _, guard := _ }) (v := ?_) rfl (by kernel_rfl) (by kernel_rfl) (by kernel_rfl) (fun _ _ _ h => h) (Or.inl ⟨by rfl, ?_⟩) (by assumption) ?_
        rotate_left
        · intro Wx hSw
          try dsimp only at hSw
          go_simp
          try with_reducible rfl
        try simp only [Act.put, List.setIfInBounds_toArray, List.set_cons_zero, List.set_cons_succ]
        refine wpAnyH_take (i := 15) (oi := { dst := some 42, op := _, type := _, pos := _, after := _, guard := _ }) (v := ?_) rfl (by kernel_rfl) (by kernel_rfl) (by kernel_rfl) (fun _ _ _ h => h) (Or.inl ⟨by rfl, ?_⟩) (by assumption) ?_
        rotate_left
        · intro Wx hSw
          try dsimp only at hSw
          go_simp
          try with_reducible rfl
        try simp only [Act.put, List.setIfInBounds_toArray, List.set_cons_zero, List.set_cons_succ]
        refine wpAnyH_ready (rs := [13]) (by kernel_rfl) (by simp) (AllReadyH.cons rfl (fun KK hKK => ?_) AllReadyH.nil)
        go_simp
        refine hKK.out _ _ (HS.out _ (Fr.refl _ wr).drew) (fun hHeld => ?_)
        clear hKK KK
        refine wpAnyH_ready (rs := [16]) (by kernel_rfl) (by simp) (AllReadyH.cons rfl (fun KK hKK => ?_) AllReadyH.nil)
        go_simp
        refine (HKC.out _).mono ?_
        rintro e v ⟨rfl, fv⟩
        go_simp
        refine hKK.out _ _ (HS.out _ ((Fr.refl _ wr).drew.trans fv fun _ _ e => e)) (fun hHeld => ?_)
        clear hKK KK
        have hz := HX.out.drew.fr fv
        obtain ⟨u1, u2, i1', i2', z1, z2⟩ := HFR.out _ hz
        have HVN := Lib.hid (HSET.out _ hz ⟨2, d⟩)
        have hs2 := HAT2.out _ ⟨2, d⟩ HVN.out
        simp only at hs2
        rw [HLZ.out] at hs2
        have HSN := Lib.hid hs2
        clear hz hs2 fv
        refine wpAnyH_take (i := 17) (oi := { dst := some 44, op := _, type := _, pos := _, after := _, guard := _ }) (v := ?_) rfl (by kernel_rfl) (by kernel_rfl) (by kernel_rfl) (fun _ _ _ h => h) (Or.inl ⟨by rfl, ?_⟩) (by assumption) ?_
        rotate_left
        · intro Wx hSw
          try dsimp only at hSw
          go_simp
          try with_reducible rfl
        try simp only [Act.put, List.setIfInBounds_toArray, List.set_cons_zero, List.set_cons_succ]
        refine wpAnyH_ready (rs := [18]) (by kernel_rfl) (by simp) (AllReadyH.cons rfl (fun KK hKK => ?_) AllReadyH.nil)
        go_simp
        refine hKK.out _ _ HSN.out (fun hHeld => ?_)
        clear hKK KK
        refine wpAnyH_done (by kernel_rfl) ?_ _
        --END 2
        clear d0 d1 u1 u2 i1' i2' z1 z2
        go_wp2_with fail
        rw [← HEA.out]
        go_roundg (C.cr.length - (j + 1))
        case measure => have := HJ.out; omega
        case rel => exact ⟨j + 1, HJ.out, rfl, by go_num, by rw [HSU.out]; exact HVN.out⟩
      · have e0 : (ownAt kj.own s == 0) = false := by simpa using ho
        rw [if_neg ho] at hsucc
        generalize ownAt kj.own s = oo at *
        clear ho
        generalize hd : (if yc = 1 then yo else now) = d at hsucc
        have KC := fun W => Mv.command_any yc yo now 1 W
        rw [hd] at KC
        have HSU := Lib.hid hsucc
        have HKC := Lib.hid KC
        clear hd KC hsucc hset hat hat2 hyy hcr hy hov hAo hA ea hso hjl hsm hcl hx hcd hlt hj HC
        go_upto_region 6 with fail
        have HS : Hid (∀ W, Fr (fun _ => False) wr W → W.cell? ⟨sb, 8, none⟩ = some (.slice (some ⟨g, 0, none⟩) C.cr.length K.c4)) := Lib.hid fun W f => (HAT.out W f).1
        clear p0 w0c c5 c8 i3 i4
        --BEGIN 1
        refine wp_region_held_drew (S := (fun Wx => Wx.cell? ⟨sb, 8, none⟩ = some (.slice (some ⟨g, 0, none⟩) C.cr.length K.c4))) (by kernel_rfl) (HS.out _ (Fr.refl _ wr).drew) (fun hHeld => ?_)
        refine wpAnyH_take (i := 0) (oi := { dst := some 27, op := _, type := _, pos := _, after := _, guard := _ }) (v := ?_) rfl (by kernel_rfl) (by kernel_rfl) (by kernel_rfl) (fun _ _ _ h => h) (Or.inl ⟨by rfl, ?_⟩) (by assumption) ?_
        rotate_left
        · intro Wx hSw
          try dsimp only at hSw
          go_simp
          try with_reducible rfl
        try simp only [Act.put, List.setIfInBounds_toArray, List.set_cons_zero, List.set_cons_succ]
        refine wpAnyH_take (i := 1) (oi := { dst := some 28, op := _, type := _, pos := _, after := _, guard := _ }) (v := ?_) rfl (by kernel_rfl) (by kernel_rfl) (by kernel_rfl) (fun _ _ _ h => h) (Or.inl ⟨by rfl, ?_⟩) (by assumption) ?_
        rotate_left
        · intro Wx hSw
          try dsimp only at hSw
          go_simp
          try with_reducible rfl
        try simp only [Act.put, List.setIfInBounds_toArray, List.set_cons_zero, List.set_cons_succ]
        refine wpAnyH_take (i := 2) (oi := { dst := some 29, op := _, type := _, pos := _, after := _, guard := _ }) (v := ?_) rfl (by kernel_rfl) (by kernel_rfl) (by kernel_rfl) (fun _ _ _ h => h) (Or.inl ⟨by rfl, ?_⟩) (by assumption) ?_
        rotate_left
        · intro Wx hSw
          try dsimp only at hSw
          go_simp
          try with_reducible rfl
        try simp only [Act.put, List.setIfInBounds_toArray, List.set_cons_zero, List.set_cons_succ]
        refine wpAnyH_take (i := 3) (oi := { dst := some 30, op := _, type := _, pos := _, after := _, guard := _ }) (v := ?_) rfl (by kernel_rfl) (by kernel_rfl) (by kernel_rfl) (fun _ _ _ h => h) (Or.inl ⟨by rfl, ?_⟩) (by assumption) ?_
        rotate_left
        · intro Wx hSw
          try dsimp only at hSw
          go_simp
          try with_reducible rfl
        try simp only [Act.put, List.setIfInBounds_toArray, List.set_cons_zero, List.set_cons_succ]
        refine wpAnyH_take (i := 4) (oi := { dst := some 31, op := _, type := _, pos := _, after := _, guard := _ }) (v := ?_) rfl (by kernel_rfl) (by kernel_rfl) (by kernel_rfl) (fun _ _ _ h => h) (Or.inl ⟨by rfl, ?_⟩) (by assumption) ?_
        rotate_left
        · intro Wx hSw
          try dsimp only at hSw
          go_simp
          try with_reducible rfl
        try simp only [Act.put, List.setIfInBounds_toArray, List.set_cons_zero, List.set_cons_succ]
        refine wpAnyH_take (i := 5) (oi := { dst := some 32, op := _, type := _, pos := _, after := _, guard := _ }) (v := ?_) rfl (by kernel_rfl) (by kernel_rfl) (by kernel_rfl) (fun _ _ _ h => h) (Or.inl ⟨by rfl, ?_⟩) (by assumption) ?_
        rotate_left
        · intro Wx hSw
          try dsimp only at hSw
          go_simp
          try with_reducible rfl
        try simp only [Act.put, List.setIfInBounds_toArray, List.set_cons_zero, List.set_cons_succ]
        refine wpAnyH_take (i := 6) (oi := { dst := some 33, op := _, type := _, pos := _, after := _, guard := _ }) (v := ?_) rfl (by kernel_rfl) (by kernel_rfl) (by kernel_rfl) (fun _ _ _ h => h) (Or.inl ⟨by rfl, ?_⟩) (by assumption) ?_
        rotate_left
        · intro Wx hSw
          try dsimp only at hSw
          go_simp
          try with_reducible rfl
        try simp only [Act.put, List.setIfInBounds_toArray, List.set_cons_zero, List.set_cons_succ]
        refine wpAnyH_take (i := 7) (oi := { dst := some 34, op := _, type := _, pos := _, after := _, guard := _ }) (v := ?_) rfl (by kernel_rfl) (by kernel_rfl) (by kernel_rfl) (fun _ _ _ h => h) (Or.inl ⟨by rfl, ?_⟩) (by assumption) ?_
        rotate_left
        · intro Wx hSw
          try dsimp only at hSw
          go_simp
          try with_reducible rfl
        try simp only [Act.put, List.setIfInBounds_toArray, List.set_cons_zero, List.set_cons_succ]
        refine wpAnyH_take (i := 8) (oi := { dst := some 35, op := _, type := _, pos := _, after := _, guard := _ }) (v := ?_) rfl (by kernel_rfl) (by kernel_rfl) (by kernel_rfl) (fun _ _ _ h => h) (Or.inl ⟨by rfl, ?_⟩) (by assumption) ?_
        rotate_left
        · intro Wx hSw
          try dsimp only at hSw
          go_simp
          try with_reducible rfl
        try simp only [Act.put, List.setIfInBounds_toArray, List.set_cons_zero, List.set_cons_succ]
        refine wpAnyH_take (i := 9) (oi := { dst := some 36, op := _, type := _, pos := _, after := _, guard := _ }) (v := ?_) rfl (by kernel_rfl) (by kernel_rfl) (by kernel_rfl) (fun _ _ _ h => h) (Or.inl ⟨by rfl, ?_⟩) (by assumption) ?_
        rotate_left
        · intro Wx hSw
          try dsimp only at hSw
          go_simp
          try with_reducible rfl
        try simp only [Act.put, List.setIfInBounds_toArray, List.set_cons_zero, List.set_cons_succ]
        refine wpAnyH_take (i := 10) (oi := { dst := some 37, op := _, type := _, pos := _, after := _, guard := _ }) (v := ?_) rfl (by kernel_rfl) (by kernel_rfl) (by kernel_rfl) (fun _ _ _ h => h) (Or.inl ⟨by rfl, ?_⟩) (by assumption) ?_
        rotate_left
        · intro Wx hSw
          try dsimp only at hSw
          go_simp
          try with_reducible rfl
        try simp only [Act.put, List.setIfInBounds_toArray, List.set_cons_zero, List.set_cons_succ]
        refine wpAnyH_take (i := 11) (oi := { dst := some 38, op := _, type := _, pos := _, after := _, guard := _ }) (v := ?_) rfl (by kernel_rfl) (by kernel_rfl) (by kernel_rfl) (fun _ _ _ h => h) (Or.inl ⟨by rfl, ?_⟩) (by assumption) ?_
        rotate_left
        · intro Wx hSw
          try dsimp only at hSw
          go_simp
          try with_reducible rfl
        try simp only [Act.put, List.setIfInBounds_toArray, List.set_cons_zero, List.set_cons_succ]
        refine wpAnyH_take (i := 12) (oi := { dst := some 39, op := _, type := _, pos := _, after := _, guard := _ }) (v := ?_) rfl (by kernel_rfl) (by kernel_rfl) (by kernel_rfl) (fun _ _ _ h => h) (Or.inl ⟨by rfl, ?_⟩) (by assumption) ?_
        rotate_left
        · intro Wx hSw
          try dsimp only at hSw
          go_simp
          try with_reducible rfl
        try simp only [Act.put, List.setIfInBounds_toArray, List.set_cons_zero, List.set_cons_succ]
        refine wpAnyH_take (i := 14) (oi := { dst := some 41, op := _, type := _, pos := _, after := _, guard := _ }) (v := ?_) rfl (by kernel_rfl) (by kernel_rfl) (by kernel_rfl) (fun _ _ _ h => h) (Or.inl ⟨by rfl, ?_⟩) (by assumption) ?_
        rotate_left
        · intro Wx hSw
          try dsimp only at hSw
          go_simp
          try with_reducible rfl
        try simp only [Act.put, List.setIfInBounds_toArray, List.set_cons_zero, List.set_cons_succ]
        refine wpAnyH_take (i := 15) (oi := { dst := some 42, op := _, type := _, pos := _, after := _, guard := _ }) (v := ?_) rfl (by kernel_rfl) (by kernel_rfl) (by kernel_rfl) (fun _ _ _ h => h) (Or.inl ⟨by rfl, ?_⟩) (by assumption) ?_
        rotate_left
        · intro Wx hSw
          try dsimp only at hSw
          go_simp
          try with_reducible rfl
        try simp only [Act.put, List.setIfInBounds_toArray, List.set_cons_zero, List.set_cons_succ]
        refine wpAnyH_ready (rs := [13]) (by kernel_rfl) (by simp) (AllReadyH.cons rfl (fun KK hKK => ?_) AllReadyH.nil)
        go_simp
        refine hKK.out _ _ (HS.out _ (Fr.refl _ wr).drew) (fun hHeld => ?_)
        clear hKK KK
        refine wpAnyH_ready (rs := [16]) (by kernel_rfl) (by simp) (AllReadyH.cons rfl (fun KK hKK => ?_) AllReadyH.nil)
        go_simp
        refine (HKC.out _).mono ?_
        rintro e v ⟨rfl, fv⟩
        go_simp
        refine hKK.out _ _ (HS.out _ ((Fr.refl _ wr).drew.trans fv fun _ _ e => e)) (fun hHeld => ?_)
        clear hKK KK
        have hz := HX.out.drew.fr fv
        obtain ⟨u1, u2, i1', i2', z1, z2⟩ := HFR.out _ hz
        have HVN := Lib.hid (HSET.out _ hz ⟨1, d⟩)
        have hs2 := HAT2.out _ ⟨1, d⟩ HVN.out
        simp only at hs2
        rw [HLZ.out] at hs2
        have HSN := Lib.hid hs2
        clear hz hs2 fv
        refine wpAnyH_take (i := 17) (oi := { dst := some 44, op := _, type := _, pos := _, after := _, guard := _ }) (v := ?_) rfl (by kernel_rfl) (by kernel_rfl) (by kernel_rfl) (fun _ _ _ h => h) (Or.inl ⟨by rfl, ?_⟩) (by assumption) ?_
        rotate_left
        · intro Wx hSw
          try dsimp only at hSw
          go_simp
          try with_reducible rfl
        try simp only [Act.put, List.setIfInBounds_toArray, List.set_cons_zero, List.set_cons_succ]
        refine wpAnyH_ready (rs := [18]) (by kernel_rfl) (by simp) (AllReadyH.cons rfl (fun KK hKK => ?_) AllReadyH.nil)
        go_simp
        refine hKK.out _ _ HSN.out (fun hHeld => ?_)
        clear hKK KK
        refine wpAnyH_done (by kernel_rfl) ?_ _
        --END 1
        clear d0 d1 u1 u2 i1' i2' z1 z2
        go_wp2_with fail
        rw [← HEA.out]
        go_roundg (C.cr.length - (j + 1))
        case measure => have := HJ.out; omega
        case rel => exact ⟨j + 1, HJ.out, rfl, by go_num, by rw [HSU.out]; exact HVN.out⟩
    · have hje : C.cr.length = j := by omega
      rw [← hje] at HC
      have HC := Lib.hid HC
      clear hlt hj
      go_wp2_with fail
      go_end0
      exact ⟨rfl, HC.out⟩
end Go.Proofs.YtginfnbdnkgjbaaGreat.Nk
/- Resets are done. -/
namespace Go.Proofs.YtginfnbdnkgjbaaGreat.Nk
open Go.RowKit Lk

set_option maxRecDepth 100000 in
set_option maxHeartbeats 8000000 in
theorem doResets_any {w0 w : World} {sb : Nat} {V : Vm} {K : Km} {k : Kp} {C : Cm} {rec : Bool} (h : Cy w0 w sb V (kw K k) C rec) (hv : V.Ok w0) (hc : C.Ok w0) (hlo : k.own.length = k.rss.length) (h24 : k.rss.length ≤ 24) (hrb : ∀ n ∈ k.rss, 0 ≤ n ∧ n ≤ 4294967296) (hs : V.occ.length = k.rss.length) :
    Calls Tryz.prog 99 #[.pointer (some ⟨sb, 0, none⟩)] w fun e w' => e = .returned (.tuple #[]) ∧ Cy w0 w' sb V (kw K (resAll V.vp k k.rss.length)) C rec := by
  have c10 : w.cell? ⟨sb, 10, none⟩ = some (.slice K.A6 k.rss.length K.c6) := h.is.cell 10
  have HH := Lib.hid h
  have HL := Lib.hid (And.intro hlo (And.intro h24 hs))
  have HRB := Lib.hid hrb
  generalize hN : k.rss.length = N at *
  have HN := Lib.hid hN
  clear h hlo h24 hrb hs hN
  go_enter Tryz.func99, Tryz.ntmps99
  go_wp2_with fail
  clear c10
  go_loopg [2, 3, 10] N (fun gi _ _ v10 wr => ∃ (j : Nat), j ≤ N ∧ gi = N - j ∧ v10 = .int .i64 (j : Nat) ∧ Cy w0 wr sb V (kw K (resAll V.vp k j)) C rec ∧ (resAll V.vp k j).rss.length = N ∧ (resAll V.vp k j).own.length = N)
  case atStart => exact ⟨0, Nat.zero_le _, rfl, rfl, HH.out, HN.out, HL.out.1⟩
  case round =>
    clear HH
    obtain ⟨j, hj, rfl, rfl, HC, hl6, hl1⟩ := hrel
    by_cases hlt : j < N
    · have hsucc := resAll_succ V.vp k j
      have hrs := resAll_rss V.vp k j j (Nat.le_refl j)
      unfold resK at hsucc
      have hq : k.rss.getD j 0 = k.rss[j]'(by have := HN.out; omega) := by rw [List.getD_eq_getElem?_getD, List.getElem?_eq_getElem (by have := HN.out; omega)]; rfl
      have hqb := HRB.out _ (List.getElem_mem (show j < k.rss.length by have := HN.out; omega))
      rw [hrs, hq] at hsucc
      rw [hq] at hrs
      generalize k.rss[j]'(by have := HN.out; omega) = q at *
      generalize resAll V.vp k j = kj at *
      have hj6 : j < kj.rss.length := by omega
      have hj1 : j < kj.own.length := by omega
      obtain ⟨g6, hA6, t6, z6⟩ := HC.at6 (j := j) hj6
      obtain ⟨g1, hA1, t1, -⟩ := HC.at1 (j := j) hj1
      have hA6 : K.A6 = some ⟨g6, 0, none⟩ := hA6
      have hA1 : K.A1 = some ⟨g1, 0, none⟩ := hA1
      have hrq : kj.rss[j] = q := by rw [← hrs, List.getD_eq_getElem?_getD, List.getElem?_eq_getElem hj6]; rfl
      have d6 : wr.cell? ⟨g6, j, none⟩ = some (.int .i64 (kj.rss[j]'hj6)) := t6
      have d1 : wr.cell? ⟨g1, j, none⟩ = some (.int .i64 (kj.own[j]'hj1)) := t1
      rw [hrq] at d6
      rw [← ownAt_get hj1] at d1
      have c5 : wr.cell? ⟨sb, 5, none⟩ = some (.slice K.A1 kj.own.length K.c1) := HC.is.cell 5
      have c10 : wr.cell? ⟨sb, 10, none⟩ = some (.slice K.A6 kj.rss.length K.c6) := HC.is.cell 10
      rw [hA1, hl1] at c5
      rw [hA6, hl6] at c10
      obtain ⟨y0, y1, y2, y3, y4⟩ := HC.eye5
      have KB : ∀ t, Calls Tryz.prog 163 #[.agg (eyeArr V C.tm.age), .int .i64 (j : Int), .int .i64 t] wr fun e w' => e = .returned (.bool (clbB V.vp.occ j t)) ∧ Fr (fun _ => False) wr w' := fun t => clearBehind_any (age := C.tm.age) HC.vok (j := j) (by have := HL.out; omega) t
      unfold eyeArr at KB
      have H1 := Lib.hid (HC.due hv hc (j := j) hj6 hA6 0)
      rw [hA6]
      have HA := Lib.hid hA6
      have HJ := Lib.hid hlt
      have HX := Lib.hid HC
      have HS := Lib.hid (And.intro hl6 hl1)
      have HZ := Lib.hid (And.intro hj6 hj1)
      have hbb := HL.out.2.1
      have i1 : (0 : Int) ≤ (j : Int) := by omega
      have i2 : (j : Int) < (N : Int) := by omega
      have hlen1 : ∀ x : Int, (kj.rss.set j x).length = N := fun x => by rw [List.length_set]; exact hl6
      have HLEN := Lib.hid hlen1
      clear t6 t1 hA6 hA1 hrs hq hrq hlen1 HC hj hlt hl6 hl1
      by_cases h0 : q = 0
      · rw [if_pos h0] at hsucc
        rw [h0] at d6
        have HK := Lib.hid hsucc
        clear hsucc h0 d1 c5 c10 y0 y1 y2 y3 y4 KB z6 hqb hj6 hj1
        go_wp2_with fail
        rw [← HA.out]
        go_roundg (N - (j + 1))
        case measure => have := HJ.out; omega
        case rel => exact ⟨j + 1, HJ.out, rfl, by go_num, by rw [HK.out]; exact HX.out, by rw [HK.out]; exact HS.out.1, by rw [HK.out]; exact HS.out.2⟩
      · rw [if_neg h0] at hsucc
        have e0 : (q == 0) = false := by simpa using h0
        by_cases h1 : ownAt kj.own j = -1
        · rw [if_neg (fun h => h h1)] at hsucc
          rw [h1] at d1
          obtain ⟨q1, hq1⟩ : ∃ q1, q1 = q - 1 := ⟨_, rfl⟩
          have eq1 : wrap64 (q - 1) = q1 := by rw [hq1]; exact IntWalk.wrap64_in _ ⟨by omega, by omega⟩
          have KB := KB q1
          rw [← hq1] at hsucc
          generalize hbv : clbB V.vp.occ j q1 = b at *
          clear hbv h0 h1 hqb
          cases b
          · rw [if_neg (by decide)] at hsucc
            have HK := Lib.hid hsucc
            clear hsucc hq1
            go_wp2_with fail
            refine KB.mono ?_
            rintro e w2 ⟨rfl, f2⟩
            have HX2 := Lib.hid (HX.out.fr f2)
            clear KB d1 d6 c5 c10 y0 y1 y2 y3 y4 z6 f2 hj6 hj1 H1
            go_wp2_with fail
            rw [← HA.out]
            go_roundg (N - (j + 1))
            case measure => have := HJ.out; omega
            case rel => exact ⟨j + 1, HJ.out, rfl, by go_num, by rw [HK.out]; exact HX2.out, by rw [HK.out]; exact HS.out.1, by rw [HK.out]; exact HS.out.2⟩
          · rw [if_pos rfl] at hsucc
            have HK := Lib.hid hsucc
            clear hsucc hq1
            go_wp2_with fail
            refine KB.mono ?_
            rintro e w2 ⟨rfl, f2⟩
            have KF := free_any (HX.out.fr f2) hv hc (s := j) HZ.out.2
            clear KB d1 d6 c5 c10 y0 y1 y2 y3 y4 z6 f2 H1
            go_wp2_with fail
            refine KF.mono ?_
            rintro e w3 ⟨rfl, h3⟩
            obtain ⟨g, hA6, t6, z6⟩ := h3.at6 (j := j) HZ.out.1
            have hA6 : K.A6 = some ⟨g, 0, none⟩ := hA6
            obtain rfl : g = g6 := by have := hA6.symm.trans HA.out; injection this with e; injection e
            have c10 : w3.cell? ⟨sb, 10, none⟩ = some (.slice K.A6 kj.rss.length K.c6) := h3.is.cell 10
            rw [HA.out, HS.out.1] at c10
            have H4 := Lib.hid (h3.due hv hc (j := j) HZ.out.1 hA6 0)
            clear KF h3 hA6 hj6 hj1
            go_wp2_with fail
            rw [← HA.out]
            go_roundg (N - (j + 1))
            case measure => have := HJ.out; omega
            case rel => exact ⟨j + 1, HJ.out, rfl, by go_num, by rw [HK.out]; exact H4.out, by rw [HK.out]; exact HLEN.out 0, by rw [HK.out]; show (kj.own.set _ _).length = N; rw [List.length_set]; exact HS.out.2⟩
        · rw [if_pos h1] at hsucc
          have e1 : (ownAt kj.own j != -1) = true := by simpa using h1
          have HK := Lib.hid hsucc
          generalize ownAt kj.own j = oo at *
          clear hsucc h0 h1 KB hqb y0 y1 y2 y3 y4 hj6 hj1
          go_wp2_with fail
          rw [← HA.out]
          go_roundg (N - (j + 1))
          case measure => have := HJ.out; omega
          case rel => exact ⟨j + 1, HJ.out, rfl, by go_num, by rw [HK.out]; exact H1.out, by rw [HK.out]; exact HLEN.out 0, by rw [HK.out]; exact HS.out.2⟩
    · have hje : N = j := by omega
      rw [← hje] at HC
      have HC := Lib.hid HC
      clear hlt hj
      go_wp2_with fail
      go_end0
      exact ⟨rfl, HC.out⟩
end Go.Proofs.YtginfnbdnkgjbaaGreat.Nk
/- What the signals show. -/
namespace Go.Proofs.YtginfnbdnkgjbaaGreat.Nk
open Go.RowKit Lk

theorem en_aspect (args : Array Value) (w : World) : (callFunc 165 args).run Tryz.prog w = .ok (.enter 165 args) w := by
  have h := Tryz.func165
  go_simp
set_option maxHeartbeats 1000000 in
theorem aspect_any (q : Ro) (w : World) : Calls Tryz.prog 165 #[q.val] w fun e w' => e = .returned (.int .i64 (aspR q.rt)) ∧ Fr (fun _ => False) w w' := by
  obtain ⟨en, ex, a1, q1, path, a2, q2, flank, a3, q3, over, sh⟩ := q
  unfold Ro.val aspR Ro.rt
  dsimp only
  have HF := Lib.hid ((Fr.refl (fun _ => False) w).alloc (.cells #[.int .i64 en, .int .i64 ex, .slice a1 path.length q1, .slice a2 flank.length q2, .slice a3 over.length q3, .bool sh] 74))
  have c5 := (Is.new w 74 #[.int .i64 en, .int .i64 ex, .slice a1 path.length q1, .slice a2 flank.length q2, .slice a3 over.length q3, .bool sh]).cell 5
  cases sh
  all_goals
    go_enter Tryz.func165, Tryz.ntmps165
    go_wp2_with fail
    go_ret
    exact ⟨rfl, HF.out⟩
theorem Cy.keep {w0 w w1 : World} {sb : Nat} {V : Vm} {K : Km} {C : Cm} {rec : Bool} {S : Nat → Prop} (h : Cy w0 w sb V K C rec) (hv : V.Ok w0) (hc : C.Ok w0) (f : Fr S w w1) (hS : ∀ q, S q → ¬ K.at q ∧ q ≠ sb ∧ w0.heap.size ≤ q) : Cy w0 w1 sb V K C rec := by
  have hf : Fr (fun _ => False) w0 w1 := h.f.trans f fun q hq e => by have := (hS q e).2.2; omega
  exact ⟨h.is.fr f fun e => (hS _ e).2.1 rfl, h.own.fr f fun k hk e => (hS k e).1 hk, hf, h.hb, hv.fr hf, hc.fr hf⟩
set_option maxRecDepth 100000 in
set_option maxHeartbeats 8000000 in
theorem aspects_any {w0 w : World} {sb : Nat} {V : Vm} {K : Km} {k : Kp} {C : Cm} {rec : Bool} (h : Cy w0 w sb V (kw K k) C rec) (hv : V.Ok w0) (hc : C.Ok w0) (F : FitP C.cf k) :
    Calls Tryz.prog 100 #[.pointer (some ⟨sb, 0, none⟩)] w fun e w' => ∃ g, e = .returned (.slice (some ⟨g, 0, none⟩) C.sg.length C.sg.length) ∧ w'.ownsRow w.heap.size 3 1 (.slice (some ⟨g, 0, none⟩) C.sg.length C.sg.length) C.sg.length ((aspAll C.cf k C.rs.length).map (Value.int .i64)) ∧ Fr (fun _ => False) w w' := by
  have hl : k.rts.length = C.rs.length := by have := F.l2; unfold Cm.cf at this; simpa using this
  have h12 : C.rs.length ≤ 12 := by have := (right_small F.chk).2.2; unfold Cm.cf at this; simpa using this
  have h14 : C.sg.length * 16 ≤ 140737488351232 := h.cok.b3
  have hen : ∀ r (hr : r < C.rs.length), 0 ≤ C.rs[r].entry ∧ C.rs[r].entry < C.sg.length := fun r hr => (rout_of F.chk hr).entry
  have c14 : w.cell? ⟨sb, 14, none⟩ = some (.slice C.A3 C.sg.length C.c3) := h.is.cell 14
  have hsz : sb < w.heap.size ∧ ∀ q, (kw K k).at q → q < w.heap.size := ⟨h.is.lt, fun q hq => (h.own.lt q hq).2⟩
  have hmk := mk_int C.sg.length (by omega) w
  have HF0 := (Fr.refl (fun _ => False) w).alloc (.cells (List.replicate (C.sg.length * 1) (Value.int .i64 0)).toArray 3)
  have HI0 := own_of_is (B := w.heap.size) (n := C.sg.length) (size := 1) (xs := List.replicate (C.sg.length * 1) (Value.int .i64 0)) (Is.new w 3 (List.replicate (C.sg.length * 1) (Value.int .i64 0)).toArray) (Nat.le_refl _) (by simp) (by unfold maxLen; omega)
  have c16 : (w.alloc (.cells (List.replicate (C.sg.length * 1) (Value.int .i64 0)).toArray 3)).cell? ⟨sb, 16, none⟩ = some (.slice C.A5 C.rs.length C.c5) := (h.fr HF0).is.cell 16
  have HX0 := h.fr HF0
  have hle : w0.heap.size ≤ w.heap.size := h.f.size
  have hea : (List.replicate (C.sg.length * 1) (Value.int .i64 0)).toArray = Array.replicate C.sg.length (Value.int .i64 0) := by simp
  rw [hea] at hmk HF0 HI0 c16 HX0
  have HSZ := Lib.hid (And.intro hsz hle)
  have HL := Lib.hid (And.intro hl (And.intro h12 h14))
  have HEN := Lib.hid hen
  have HF0h := Lib.hid HF0
  have HI0h := Lib.hid HI0
  have HX := Lib.hid HX0
  clear h F hl h12 h14 hen hsz hle HF0 HI0 HX0
  go_enter Tryz.func100, Tryz.ntmps100
  go_upto_region 2 with fail
  generalize w.alloc _ = wa at *
  generalize hzb : w.heap.size = zb at *
  have HZB := Lib.hid hzb
  clear c14 hmk hzb
  have hasp0 : (aspAll C.cf k 0).map (Value.int .i64) = List.replicate (C.sg.length * 1) (Value.int .i64 0) := by
    show (List.replicate C.sg.length (0 : Int)).map (Value.int .i64) = _
    rw [List.map_replicate, Nat.mul_one]
  have HA0 := Lib.hid hasp0
  clear hasp0 hea
  go_wp2_with fail
  clear c16
  go_loopg [4, 5, 19] C.rs.length (fun gi _ _ v19 wr => ∃ (j : Nat), j ≤ C.rs.length ∧ gi = C.rs.length - j ∧ v19 = .int .i64 (j : Nat) ∧ Cy w0 wr sb V (kw K k) C rec ∧ wr.ownsRow zb 3 1 (.slice (some ⟨zb, 0, none⟩) C.sg.length C.sg.length) C.sg.length ((aspAll C.cf k j).map (Value.int .i64)) ∧ Fr (fun _ => False) w wr)
  case atStart => exact ⟨0, Nat.zero_le _, rfl, rfl, HX.out, by rw [HA0.out]; exact HI0h.out, HF0h.out⟩
  case round =>
    clear HX HI0h HF0h HA0
    obtain ⟨j, hj, rfl, rfl, HC, ho, f⟩ := hrel
    by_cases hlt : j < C.rs.length
    · have hsucc := aspAll_succ C.cf k j
      have hlen := aspAll_len C.cf k j
      unfold aspK at hsucc
      rw [rt_cf hlt] at hsucc
      have hent := HEN.out j hlt
      have KA := fun W => aspect_any C.rs[j] W
      obtain ⟨gr, og, hA, r0, r1, r2, r3, r4, r5⟩ := rd_ro HC.cok.rts hlt
      have hes : C.rs[j].rt.entry = C.rs[j].entry := rfl
      rw [hes] at hsucc
      generalize aspR C.rs[j].rt = av at *
      have hjl : j < k.rts.length := by have := HL.out.1; omega
      rw [rsAt_nat (k := k) hjl] at hsucc
      generalize C.rs[j] = q at *
      obtain ⟨en0, ex, a1, q1, path, a2, q2, flank, a3, q3, over, sh⟩ := q
      unfold Ro.val at KA
      dsimp only at *
      obtain ⟨en, rfl⟩ := Int.eq_ofNat_of_zero_le hent.1
      have henl : en < C.sg.length := by omega
      rw [Int.toNat_natCast] at hsucc
      have hl2 : aspAll C.cf k (j + 1) = if k.rts[j].st = 2 then (aspAll C.cf k j).set en (max ((aspAll C.cf k j).getD en 0) av) else aspAll C.cf k j := hsucc
      generalize aspAll C.cf k j = l at *
      have hl : l.length = C.sg.length := hlen
      have fb := (Fr.refl (fun _ => False) wr).alloc (.cells #[.int .i64 (en : Int), .int .i64 ex, .slice a1 path.length q1, .slice a2 flank.length q2, .slice a3 over.length q3, .bool sh] 74)
      have hX := HC.fr fb
      obtain ⟨g2, hA2, t9, -⟩ := hX.at2 (j := j) hjl
      have hA2 : K.A2 = some ⟨g2, 0, none⟩ := hA2
      have c9 := hX.is.cell 6
      have ho2 := wide_fr ho fb fun _ _ => id
      have hbx := Is.new wr 74 #[.int .i64 (en : Int), .int .i64 ex, .slice a1 path.length q1, .slice a2 flank.length q2, .slice a3 over.length q3, .bool sh]
      rw [hA]
      have HAr := Lib.hid hA
      have i1 : (0 : Int) ≤ (j : Int) := by omega
      have i2 : (j : Int) < (C.rs.length : Int) := by omega
      have i3 : (j : Int) < (k.rts.length : Int) := by omega
      have hbb := HL.out.2.1
      have HJ := Lib.hid (And.intro hlt hjl)
      have HE := Lib.hid (And.intro henl hl)
      have HX := Lib.hid hX
      have HF := Lib.hid (f.alloc (.cells #[.int .i64 (en : Int), .int .i64 ex, .slice a1 path.length q1, .slice a2 flank.length q2, .slice a3 over.length q3, .bool sh] 74))
      have HL2 := Lib.hid hl2
      have HKA := Lib.hid KA
      clear hA hlen hent hes hsucc hl2 hlt hj f fb hX KA HC ho
      go_upto_region 5 with fail
      clear r0 r1 r2 r3 r4 r5
      generalize wr.alloc _ = w1 at *
      generalize wr.heap.size = zr at *
      have t0 : w1.cell? ⟨g2, j * 4, none⟩ = some (.int .i64 k.rts[j].st) := t9
      have c6 : w1.cell? ⟨sb, 6, none⟩ = some (.slice K.A2 k.rts.length K.c2) := c9
      rw [hA2] at c6
      clear hA2 c9 t9
      by_cases h2 : k.rts[j].st = 2
      · rw [h2] at t0
        have HK : Hid (aspAll C.cf k (j + 1) = l.set en (max (l.getD en 0) av)) := Lib.hid (HL2.out.trans (if_pos h2))
        obtain ⟨mx, hmx⟩ : ∃ mx, mx = max (l.getD en 0) av := ⟨_, rfl⟩
        rw [← hmx] at HK
        have hole : l.getD en 0 = l[en]'(by have := HE.out; omega) := by rw [List.getD_eq_getElem?_getD, List.getElem?_eq_getElem (by have := HE.out; omega)]; rfl
        obtain ⟨ol, hol⟩ : ∃ ol, ol = l.getD en 0 := ⟨_, rfl⟩
        rw [← hol] at hmx hole
        have HMX : Hid (∀ W, (Builtin.max_ #[3, 3] 3 #[.int .i64 ol, .int .i64 av]).run Tryz.prog W = .ok (.int .i64 mx) W) := Lib.hid fun W => by
          have e : (Builtin.max_ #[3, 3] 3 #[.int .i64 ol, .int .i64 av]).run Tryz.prog W = .ok (.int .i64 (if av > ol then av else ol)) W := by simp [Builtin.max_, Builtin.max2]
          rw [e, hmx]
          congr 2
          split <;> omega
        have HO2 := Lib.hid ho2
        go_upto_region 6 with fail
        have HOL : Hid (∀ W, Fr (fun _ => False) w1.drew W → W.cell? ⟨zb, en, none⟩ = some (.int .i64 ol)) := Lib.hid fun W fW => by
          have o9 := wide_fr HO2.out ((Fr.refl (fun _ => False) w1).drew.trans fW fun _ _ e => e) fun _ _ => id
          rw [o9.cellAt en (by rw [Nat.mul_one]; exact HE.out.1), List.getElem?_map, List.getElem?_eq_getElem (by have := HE.out; omega), hole]
          rfl
        have HZL : Hid (∀ W, Fr (fun _ => False) w1.drew W → (∃ u, W.cell? ⟨zb, en, none⟩ = some u) ∧ W.frozen? ⟨zb, en, none⟩ = false) := Lib.hid fun W fW => by
          have o9 := wide_fr HO2.out ((Fr.refl (fun _ => False) w1).drew.trans fW fun _ _ e => e) fun _ _ => id
          exact ⟨⟨_, HOL.out W fW⟩, o9.frozenAt en⟩
        have HBX : Hid (∀ W, Fr (fun _ => False) w1.drew W → W.cell? ⟨zr, 0, none⟩ = some (.int .i64 (en : Int)) ∧ W.cell? ⟨zr, 1, none⟩ = some (.int .i64 ex) ∧ W.cell? ⟨zr, 2, none⟩ = some (.slice a1 path.length q1) ∧ W.cell? ⟨zr, 3, none⟩ = some (.slice a2 flank.length q2) ∧ W.cell? ⟨zr, 4, none⟩ = some (.slice a3 over.length q3) ∧ W.cell? ⟨zr, 5, none⟩ = some (.bool sh)) := Lib.hid fun W fW => by
          have b := (hbx.drew).fr fW id
          exact ⟨b.cell 0, b.cell 1, b.cell 2, b.cell 3, b.cell 4, b.cell 5⟩
        have j1 : (0 : Int) ≤ (en : Int) := by omega
        have j2 : (en : Int) < (C.sg.length : Int) := by have := HE.out; omega
        clear hole hol hmx ho2 hbx h2 t0 c6
        refine region_late 12 [34, 35, 36, 37, 38, 39, 40, 41, 42, 43, 44, 45] [(34, Sp.val (.slice (some ⟨zb, 0, none⟩) C.sg.length C.sg.length)), (35, Sp.val (.pointer (some ⟨zr, 0, none⟩))), (36, Sp.val (.int .i64 (en : Int))), (37, Sp.val (.slice (some ⟨zb, 0, none⟩) C.sg.length C.sg.length)), (38, Sp.val (.pointer (some ⟨zr, 0, none⟩))), (39, Sp.val (.int .i64 (en : Int))), (40, Sp.val (.pointer (some ⟨zb, en, none⟩))), (41, Sp.val (.int .i64 ol)), (42, Sp.val (.agg #[.int .i64 (en : Int), .int .i64 ex, .slice a1 path.length q1, .slice a2 flank.length q2, .slice a3 over.length q3, .bool sh])), (43, Sp.val (.int .i64 av)), (44, Sp.val (.int .i64 mx)), (45, Sp.val (.pointer (some ⟨zb, en, none⟩)))] (by kernel_rfl) (by kernel_rfl) (by kernel_rfl) (by decide) (by kernel_rfl) (by kernel_rfl) (by kernel_rfl) ?_ ?_
        · intro i o ho him
          have hcase : i = 0 ∨ i = 1 ∨ i = 2 ∨ i = 3 ∨ i = 4 ∨ i = 5 ∨ i = 6 ∨ i = 7 ∨ i = 8 ∨ i = 9 ∨ i = 10 ∨ i = 11 := by omega
          clear him
          rcases hcase with rfl | rfl | rfl | rfl | rfl | rfl | rfl | rfl | rfl | rfl | rfl | rfl <;> (injection ho with ho; subst ho; intro a' w' hf hl)
          · have e1 : a'.eval (.tmp 3) = .slice (some ⟨zb, 0, none⟩) C.sg.length C.sg.length := hl 3 (by decide)
            refine l_of rfl (v := .slice (some ⟨zb, 0, none⟩) C.sg.length C.sg.length) (w' := w') (by clear hl; revert e1; generalize a'.eval = ev; intro e1; go_simp) (putL' (Fr.refl _ _) rfl)
          · have e1 : a'.eval (.tmp 5) = .pointer (some ⟨zr, 0, none⟩) := hl 5 (by decide)
            refine l_of rfl (v := .pointer (some ⟨zr, 0, none⟩)) (w' := w') (by clear hl; revert e1; generalize a'.eval = ev; intro e1; go_simp) (putL' (Fr.refl _ _) rfl)
          · have e1 : a'.eval (.tmp 35) = .pointer (some ⟨zr, 0, none⟩) := hl 35 (by decide)
            have c := (HBX.out w' hf).1
            refine l_of rfl (v := .int .i64 (en : Int)) (w' := w') (by clear hl; revert e1; generalize a'.eval = ev; intro e1; go_simp) (putL' (Fr.refl _ _) rfl)
          · have e1 : a'.eval (.tmp 3) = .slice (some ⟨zb, 0, none⟩) C.sg.length C.sg.length := hl 3 (by decide)
            refine l_of rfl (v := .slice (some ⟨zb, 0, none⟩) C.sg.length C.sg.length) (w' := w') (by clear hl; revert e1; generalize a'.eval = ev; intro e1; go_simp) (putL' (Fr.refl _ _) rfl)
          · have e1 : a'.eval (.tmp 5) = .pointer (some ⟨zr, 0, none⟩) := hl 5 (by decide)
            refine l_of rfl (v := .pointer (some ⟨zr, 0, none⟩)) (w' := w') (by clear hl; revert e1; generalize a'.eval = ev; intro e1; go_simp) (putL' (Fr.refl _ _) rfl)
          · have e1 : a'.eval (.tmp 38) = .pointer (some ⟨zr, 0, none⟩) := hl 38 (by decide)
            have c := (HBX.out w' hf).1
            refine l_of rfl (v := .int .i64 (en : Int)) (w' := w') (by clear hl; revert e1; generalize a'.eval = ev; intro e1; go_simp) (putL' (Fr.refl _ _) rfl)
          · have e1 : a'.eval (.tmp 37) = .slice (some ⟨zb, 0, none⟩) C.sg.length C.sg.length := hl 37 (by decide)
            have e2 : a'.eval (.tmp 39) = .int .i64 (en : Int) := hl 39 (by decide)
            refine l_of rfl (v := .pointer (some ⟨zb, en, none⟩)) (w' := w') (by clear hl; revert e1 e2; generalize a'.eval = ev; intro e1 e2; go_simp) (putL' (Fr.refl _ _) rfl)
          · have e1 : a'.eval (.tmp 40) = .pointer (some ⟨zb, en, none⟩) := hl 40 (by decide)
            have c := HOL.out w' hf
            refine l_of rfl (v := .int .i64 ol) (w' := w') (by clear hl; revert e1; generalize a'.eval = ev; intro e1; go_simp) (putL' (Fr.refl _ _) rfl)
          · have e1 : a'.eval (.tmp 5) = .pointer (some ⟨zr, 0, none⟩) := hl 5 (by decide)
            obtain ⟨c0, c1, c2, c3, c4, c5⟩ := HBX.out w' hf
            refine l_of rfl (v := .agg #[.int .i64 (en : Int), .int .i64 ex, .slice a1 path.length q1, .slice a2 flank.length q2, .slice a3 over.length q3, .bool sh]) (w' := w') (by clear hl; revert e1; generalize a'.eval = ev; intro e1; go_simp) (putL' (Fr.refl _ _) rfl)
          · have e1 : a'.eval (.tmp 42) = .agg #[.int .i64 (en : Int), .int .i64 ex, .slice a1 path.length q1, .slice a2 flank.length q2, .slice a3 over.length q3, .bool sh] := hl 42 (by decide)
            exact g_call rfl en_aspect (by simp [e1]) ((HKA.out w').mono fun e w'' ⟨he, f⟩ => ⟨_, he, putL' f rfl⟩)
          · have e1 : a'.eval (.tmp 41) = .int .i64 ol := hl 41 (by decide)
            have e2 : a'.eval (.tmp 43) = .int .i64 av := hl 43 (by decide)
            have hmx := HMX.out
            refine l_of rfl (v := .int .i64 mx) (w' := w') (by clear hl; revert e1 e2; generalize a'.eval = ev; intro e1 e2; go_simp) (putL' (Fr.refl _ _) rfl)
          · have e1 : a'.eval (.tmp 34) = .slice (some ⟨zb, 0, none⟩) C.sg.length C.sg.length := hl 34 (by decide)
            have e2 : a'.eval (.tmp 36) = .int .i64 (en : Int) := hl 36 (by decide)
            refine l_of rfl (v := .pointer (some ⟨zb, en, none⟩)) (w' := w') (by clear hl; revert e1 e2; generalize a'.eval = ev; intro e1 e2; go_simp) (putL' (Fr.refl _ _) rfl)
        · intro val w' hf hT
          have e44 : val 44 = .int .i64 mx := hT 44 (by decide)
          have e45 : val 45 = .pointer (some ⟨zb, en, none⟩) := hT 45 (by decide)
          simp only [laidL, List.foldl_cons, List.foldl_nil, e44, e45]
          clear hT
          generalize val 34 = v34; generalize val 35 = v35; generalize val 36 = v36; generalize val 37 = v37; generalize val 38 = v38; generalize val 39 = v39; generalize val 40 = v40; generalize val 41 = v41; generalize val 42 = v42; generalize val 43 = v43
          simp only [List.setIfInBounds_toArray, List.set_cons_succ, List.set_cons_zero]
          obtain ⟨⟨u, u1⟩, z1⟩ := HZL.out w' hf
          refine (show Tail _ _ _ 1 12 _ _ from ?_)
          refine tail1 (w' := w'.setCell ⟨zb, en, none⟩ (.int .i64 mx)) rfl rfl rfl (by go_simp) ?_
          have fw : Fr (fun _ => False) w1 w' := (Fr.refl (fun _ => False) w1).drew.trans hf fun _ _ e => e
          have hz := HSZ.out
          have HX2 := Lib.hid ((HX.out.fr fw).keep hv hc (S := fun q => q = zb) (far en (.int .i64 mx) rfl) (fun q e => by
            subst e
            exact ⟨fun hq => by have := hz.1.2 _ hq; omega, fun e => by have := hz.1.1; omega, hz.2⟩))
          have ho3 := ((wide_fr HO2.out fw fun _ _ => id).stored en (.int .i64 mx)).1
          rw [← List.map_set] at ho3
          have HO3 := Lib.hid ho3
          have HF3 := Lib.hid ((fr_nil HF.out fw).setCell (p := ⟨zb, en, none⟩) (.inr (by rw [HZB.out]; exact Nat.le_refl _)) (.int .i64 mx))
          clear fw hz ho3 u1 z1 hf j1 j2
          go_wp2_with fail
          rw [← HAr.out]
          go_roundg (C.rs.length - (j + 1))
          case measure => have := HJ.out.1; omega
          case rel => exact ⟨j + 1, HJ.out.1, rfl, by go_num, HX2.out, by rw [HK.out]; exact HO3.out, HF3.out⟩
      · have e2 : (k.rts[j].st == 2) = false := by simpa using h2
        have HK : Hid (aspAll C.cf k (j + 1) = l) := Lib.hid (HL2.out.trans (if_neg h2))
        have HO2 := Lib.hid ho2
        generalize k.rts[j].st = x at *
        clear h2 ho2 hbx
        go_wp2_with fail
        rw [← HAr.out]
        go_roundg (C.rs.length - (j + 1))
        case measure => have := HJ.out.1; omega
        case rel => exact ⟨j + 1, HJ.out.1, rfl, by go_num, HX.out, by rw [HK.out]; exact HO2.out, HF.out⟩
    · have hje : C.rs.length = j := by omega
      rw [← hje] at ho
      have HO := Lib.hid ho
      have HF := Lib.hid f
      clear hlt hj ho f
      go_wp2_with fail
      go_ret
      exact ⟨zb, rfl, by rw [HZB.out]; exact HO.out, HF.out⟩
end Go.Proofs.YtginfnbdnkgjbaaGreat.Nk
/- A cycle begins: a copy of the state, what is seen, the configuration (written by gen/begin.py). -/
namespace Go.Proofs.YtginfnbdnkgjbaaGreat.Nk
open Go.RowKit Lk

/-- three boxes -/
structure Three (w : World) (z0 z1 z2 : Nat) (C : Cm) (K : Km) (V : Vm) : Prop where
  ic : Is w z0 30 #[.slice C.A1 C.l.length C.c1, .slice C.A2 C.js.length C.c2, .slice C.A3 C.sg.length C.c3, .slice C.A4 C.cr.length C.c4, .slice C.A5 C.rs.length C.c5, .int .i64 C.tm.age, .int .i64 C.tm.brake, .int .i64 C.tm.hold, .int .i64 C.tm.budget]
  ik : Is w z1 35 #[.slice K.A1 K.own.length K.c1, .slice K.A2 K.rts.length K.c2, .slice K.A3 K.pts.length K.c3, .slice K.A4 K.crs.length K.c4, .slice K.A5 K.lns.length K.c5, .slice K.A6 K.rss.length K.c6, .bool K.dirty]
  iv : Is w z2 83 #[.slice V.A1 V.occ.length V.c1, .slice V.A2 V.pos.length V.c2, .slice V.A3 V.shut.length V.c3, .slice V.A4 V.lamp.length V.c4]
theorem Three.fr {w w1 : World} {z0 z1 z2 : Nat} {C : Cm} {K : Km} {V : Vm} (h : Three w z0 z1 z2 C K V) (f : Fr (fun _ => False) w w1) : Three w1 z0 z1 z2 C K V := ⟨h.ic.fr f id, h.ik.fr f id, h.iv.fr f id⟩
theorem Three.cells {W : World} {z0 z1 z2 : Nat} {C : Cm} {K : Km} {V : Vm} (h : Three W z0 z1 z2 C K V) : W.cell? ⟨z0, 0, none⟩ = some (.slice C.A1 C.l.length C.c1) ∧ W.cell? ⟨z0, 1, none⟩ = some (.slice C.A2 C.js.length C.c2) ∧ W.cell? ⟨z0, 2, none⟩ = some (.slice C.A3 C.sg.length C.c3) ∧ W.cell? ⟨z0, 3, none⟩ = some (.slice C.A4 C.cr.length C.c4) ∧ W.cell? ⟨z0, 4, none⟩ = some (.slice C.A5 C.rs.length C.c5) ∧ W.cell? ⟨z0, 5, none⟩ = some (.int .i64 C.tm.age) ∧ W.cell? ⟨z0, 6, none⟩ = some (.int .i64 C.tm.brake) ∧ W.cell? ⟨z0, 7, none⟩ = some (.int .i64 C.tm.hold) ∧ W.cell? ⟨z0, 8, none⟩ = some (.int .i64 C.tm.budget) ∧ W.cell? ⟨z1, 0, none⟩ = some (.slice K.A1 K.own.length K.c1) ∧ W.cell? ⟨z1, 1, none⟩ = some (.slice K.A2 K.rts.length K.c2) ∧ W.cell? ⟨z1, 2, none⟩ = some (.slice K.A3 K.pts.length K.c3) ∧ W.cell? ⟨z1, 3, none⟩ = some (.slice K.A4 K.crs.length K.c4) ∧ W.cell? ⟨z1, 4, none⟩ = some (.slice K.A5 K.lns.length K.c5) ∧ W.cell? ⟨z1, 5, none⟩ = some (.slice K.A6 K.rss.length K.c6) ∧ W.cell? ⟨z1, 6, none⟩ = some (.bool K.dirty) ∧ W.cell? ⟨z2, 0, none⟩ = some (.slice V.A1 V.occ.length V.c1) ∧ W.cell? ⟨z2, 1, none⟩ = some (.slice V.A2 V.pos.length V.c2) ∧ W.cell? ⟨z2, 2, none⟩ = some (.slice V.A3 V.shut.length V.c3) ∧ W.cell? ⟨z2, 3, none⟩ = some (.slice V.A4 V.lamp.length V.c4) :=
  ⟨h.ic.cell 0, h.ic.cell 1, h.ic.cell 2, h.ic.cell 3, h.ic.cell 4, h.ic.cell 5, h.ic.cell 6, h.ic.cell 7, h.ic.cell 8, h.ik.cell 0, h.ik.cell 1, h.ik.cell 2, h.ik.cell 3, h.ik.cell 4, h.ik.cell 5, h.ik.cell 6, h.iv.cell 0, h.iv.cell 1, h.iv.cell 2, h.iv.cell 3⟩
theorem three_new (w : World) (C : Cm) (K : Km) (V : Vm) : Three (((w.alloc (.cells C.arr 30)).alloc (.cells K.arr 35)).alloc (.cells V.arr 83)) w.heap.size (w.heap.size + 1) (w.heap.size + 1 + 1) C K V := by
  have f1 := (Fr.refl (fun _ => False) (w.alloc (.cells C.arr 30))).alloc (.cells K.arr 35)
  have f2 := (Fr.refl (fun _ => False) ((w.alloc (.cells C.arr 30)).alloc (.cells K.arr 35))).alloc (.cells V.arr 83)
  have a := (Is.new w 30 C.arr).fr (f1.trans f2 fun _ _ e => e) id
  have b := (Is.new (w.alloc (.cells C.arr 30)) 35 K.arr).fr f2 id
  have d := Is.new ((w.alloc (.cells C.arr 30)).alloc (.cells K.arr 35)) 83 V.arr
  simp only [World.size_alloc] at b d
  exact ⟨a, b, d⟩
set_option maxRecDepth 100000 in
set_option maxHeartbeats 8000000 in
theorem begin_any {C : Cm} {K : Km} {V : Vm} {w : World} (hC : C.Ok w) (hK : K.Ok w) (hV : V.Ok w) :
    Calls Tryz.prog 96 #[C.val, K.val, V.val] w fun e w' => ∃ sb K', e = .returned (.pointer (some ⟨sb, 0, none⟩)) ∧ K'.kp = K.kp ∧ Cy w w' sb V K' C (!K.dirty) := by
  have KC := fun (W : World) (f : Fr (fun _ => False) w W) => copied_any K W (hK.fr f)
  have h3 := three_new w C K V
  have f3 := (((Fr.refl (fun _ => False) w).alloc (.cells C.arr 30)).alloc (.cells K.arr 35)).alloc (.cells V.arr 83)
  have HC := Lib.hid hC
  have HV := Lib.hid hV
  have HKC := Lib.hid KC
  have HF0 := Lib.hid f3
  have H3 := Lib.hid h3
  clear hC hK hV KC f3 h3
  unfold Cm.val Km.val Vm.val Cm.arr Km.arr Vm.arr at *
  go_enter Tryz.func96, Tryz.ntmps96
  go_upto_region 1 with fail
  generalize (((w.alloc _).alloc _).alloc _) = w1 at *
  generalize w.heap.size + 1 + 1 = z2 at *
  generalize w.heap.size + 1 = z1 at *
  have HS : Hid (∀ W, Fr (fun _ => False) w1 W → W.cell? ⟨w.heap.size, 0, none⟩ = some (.slice C.A1 C.l.length C.c1) ∧ W.cell? ⟨w.heap.size, 1, none⟩ = some (.slice C.A2 C.js.length C.c2) ∧ W.cell? ⟨w.heap.size, 2, none⟩ = some (.slice C.A3 C.sg.length C.c3) ∧ W.cell? ⟨w.heap.size, 3, none⟩ = some (.slice C.A4 C.cr.length C.c4) ∧ W.cell? ⟨w.heap.size, 4, none⟩ = some (.slice C.A5 C.rs.length C.c5) ∧ W.cell? ⟨w.heap.size, 5, none⟩ = some (.int .i64 C.tm.age) ∧ W.cell? ⟨w.heap.size, 6, none⟩ = some (.int .i64 C.tm.brake) ∧ W.cell? ⟨w.heap.size, 7, none⟩ = some (.int .i64 C.tm.hold) ∧ W.cell? ⟨w.heap.size, 8, none⟩ = some (.int .i64 C.tm.budget) ∧ W.cell? ⟨z1, 0, none⟩ = some (.slice K.A1 K.own.length K.c1) ∧ W.cell? ⟨z1, 1, none⟩ = some (.slice K.A2 K.rts.length K.c2) ∧ W.cell? ⟨z1, 2, none⟩ = some (.slice K.A3 K.pts.length K.c3) ∧ W.cell? ⟨z1, 3, none⟩ = some (.slice K.A4 K.crs.length K.c4) ∧ W.cell? ⟨z1, 4, none⟩ = some (.slice K.A5 K.lns.length K.c5) ∧ W.cell? ⟨z1, 5, none⟩ = some (.slice K.A6 K.rss.length K.c6) ∧ W.cell? ⟨z1, 6, none⟩ = some (.bool K.dirty) ∧ W.cell? ⟨z2, 0, none⟩ = some (.slice V.A1 V.occ.length V.c1) ∧ W.cell? ⟨z2, 1, none⟩ = some (.slice V.A2 V.pos.length V.c2) ∧ W.cell? ⟨z2, 2, none⟩ = some (.slice V.A3 V.shut.length V.c3) ∧ W.cell? ⟨z2, 3, none⟩ = some (.slice V.A4 V.lamp.length V.c4)) := Lib.hid fun W f => (H3.out.fr f).cells
  have HG0 := Lib.hid (Fr.refl (fun _ => False) w1).drew
  have s0 := HS.out _ HG0.out
  refine wp_region_held_drew (S := (fun Wx => Wx.cell? ⟨w.heap.size, 0, none⟩ = some (.slice C.A1 C.l.length C.c1) ∧ Wx.cell? ⟨w.heap.size, 1, none⟩ = some (.slice C.A2 C.js.length C.c2) ∧ Wx.cell? ⟨w.heap.size, 2, none⟩ = some (.slice C.A3 C.sg.length C.c3) ∧ Wx.cell? ⟨w.heap.size, 3, none⟩ = some (.slice C.A4 C.cr.length C.c4) ∧ Wx.cell? ⟨w.heap.size, 4, none⟩ = some (.slice C.A5 C.rs.length C.c5) ∧ Wx.cell? ⟨w.heap.size, 5, none⟩ = some (.int .i64 C.tm.age) ∧ Wx.cell? ⟨w.heap.size, 6, none⟩ = some (.int .i64 C.tm.brake) ∧ Wx.cell? ⟨w.heap.size, 7, none⟩ = some (.int .i64 C.tm.hold) ∧ Wx.cell? ⟨w.heap.size, 8, none⟩ = some (.int .i64 C.tm.budget) ∧ Wx.cell? ⟨z1, 0, none⟩ = some (.slice K.A1 K.own.length K.c1) ∧ Wx.cell? ⟨z1, 1, none⟩ = some (.slice K.A2 K.rts.length K.c2) ∧ Wx.cell? ⟨z1, 2, none⟩ = some (.slice K.A3 K.pts.length K.c3) ∧ Wx.cell? ⟨z1, 3, none⟩ = some (.slice K.A4 K.crs.length K.c4) ∧ Wx.cell? ⟨z1, 4, none⟩ = some (.slice K.A5 K.lns.length K.c5) ∧ Wx.cell? ⟨z1, 5, none⟩ = some (.slice K.A6 K.rss.length K.c6) ∧ Wx.cell? ⟨z1, 6, none⟩ = some (.bool K.dirty) ∧ Wx.cell? ⟨z2, 0, none⟩ = some (.slice V.A1 V.occ.length V.c1) ∧ Wx.cell? ⟨z2, 1, none⟩ = some (.slice V.A2 V.pos.length V.c2) ∧ Wx.cell? ⟨z2, 2, none⟩ = some (.slice V.A3 V.shut.length V.c3) ∧ Wx.cell? ⟨z2, 3, none⟩ = some (.slice V.A4 V.lamp.length V.c4))) (by kernel_rfl) (HS.out _ HG0.out) (fun hHeld => ?_)
  refine wpAnyH_take (i := 0) (oi := { dst := some 7, op := _, type := _, pos := _, after := _, guard := _ }) (v := ?_) rfl (by kernel_rfl) (by kernel_rfl) (by kernel_rfl) (fun _ _ _ h => h) (Or.inl ⟨by rfl, ?_⟩) (by assumption) ?_
  rotate_left
  · intro Wx hSw
    try dsimp only at hSw
    go_simp
    try with_reducible rfl
  try simp only [Act.put, List.setIfInBounds_toArray, List.set_cons_zero, List.set_cons_succ]
  refine wpAnyH_take (i := 1) (oi := { dst := some 8, op := _, type := _, pos := _, after := _, guard := _ }) (v := ?_) rfl (by kernel_rfl) (by kernel_rfl) (by kernel_rfl) (fun _ _ _ h => h) (Or.inl ⟨by rfl, ?_⟩) (by assumption) ?_
  rotate_left
  · intro Wx hSw
    try dsimp only at hSw
    go_simp
    try with_reducible rfl
  try simp only [Act.put, List.setIfInBounds_toArray, List.set_cons_zero, List.set_cons_succ]
  refine wpAnyH_take (i := 2) (oi := { dst := some 9, op := _, type := _, pos := _, after := _, guard := _ }) (v := ?_) rfl (by kernel_rfl) (by kernel_rfl) (by kernel_rfl) (fun _ _ _ h => h) (Or.inl ⟨by rfl, ?_⟩) (by assumption) ?_
  rotate_left
  · intro Wx hSw
    try dsimp only at hSw
    go_simp
    try with_reducible rfl
  try simp only [Act.put, List.setIfInBounds_toArray, List.set_cons_zero, List.set_cons_succ]
  refine wpAnyH_take (i := 3) (oi := { dst := some 10, op := _, type := _, pos := _, after := _, guard := _ }) (v := ?_) rfl (by kernel_rfl) (by kernel_rfl) (by kernel_rfl) (fun _ _ _ h => h) (Or.inl ⟨by rfl, ?_⟩) (by assumption) ?_
  rotate_left
  · intro Wx hSw
    try dsimp only at hSw
    go_simp
    try with_reducible rfl
  try simp only [Act.put, List.setIfInBounds_toArray, List.set_cons_zero, List.set_cons_succ]
  refine wpAnyH_take (i := 4) (oi := { dst := some 11, op := _, type := _, pos := _, after := _, guard := _ }) (v := ?_) rfl (by kernel_rfl) (by kernel_rfl) (by kernel_rfl) (fun _ _ _ h => h) (Or.inl ⟨by rfl, ?_⟩) (by assumption) ?_
  rotate_left
  · intro Wx hSw
    try dsimp only at hSw
    go_simp
    try with_reducible rfl
  try simp only [Act.put, List.setIfInBounds_toArray, List.set_cons_zero, List.set_cons_succ]
  refine wpAnyH_take (i := 5) (oi := { dst := some 12, op := _, type := _, pos := _, after := _, guard := _ }) (v := ?_) rfl (by kernel_rfl) (by kernel_rfl) (by kernel_rfl) (fun _ _ _ h => h) (Or.inl ⟨by rfl, ?_⟩) (by assumption) ?_
  rotate_left
  · intro Wx hSw
    try dsimp only at hSw
    go_simp
    try with_reducible rfl
  try simp only [Act.put, List.setIfInBounds_toArray, List.set_cons_zero, List.set_cons_succ]
  refine wpAnyH_take (i := 7) (oi := { dst := some 14, op := _, type := _, pos := _, after := _, guard := _ }) (v := ?_) rfl (by kernel_rfl) (by kernel_rfl) (by kernel_rfl) (fun _ _ _ h => h) (Or.inl ⟨by rfl, ?_⟩) (by assumption) ?_
  rotate_left
  · intro Wx hSw
    try dsimp only at hSw
    go_simp
    try with_reducible rfl
  try simp only [Act.put, List.setIfInBounds_toArray, List.set_cons_zero, List.set_cons_succ]
  refine wpAnyH_take (i := 8) (oi := { dst := some 15, op := _, type := _, pos := _, after := _, guard := _ }) (v := ?_) rfl (by kernel_rfl) (by kernel_rfl) (by kernel_rfl) (fun _ _ _ h => h) (Or.inl ⟨by rfl, ?_⟩) (by assumption) ?_
  rotate_left
  · intro Wx hSw
    try dsimp only at hSw
    go_simp
    try with_reducible rfl
  try simp only [Act.put, List.setIfInBounds_toArray, List.set_cons_zero, List.set_cons_succ]
  refine wpAnyH_take (i := 9) (oi := { dst := some 16, op := _, type := _, pos := _, after := _, guard := _ }) (v := ?_) rfl (by kernel_rfl) (by kernel_rfl) (by kernel_rfl) (fun _ _ _ h => h) (Or.inl ⟨by rfl, ?_⟩) (by assumption) ?_
  rotate_left
  · intro Wx hSw
    try dsimp only at hSw
    go_simp
    try with_reducible rfl
  try simp only [Act.put, List.setIfInBounds_toArray, List.set_cons_zero, List.set_cons_succ]
  refine wpAnyH_take (i := 10) (oi := { dst := some 17, op := _, type := _, pos := _, after := _, guard := _ }) (v := ?_) rfl (by kernel_rfl) (by kernel_rfl) (by kernel_rfl) (fun _ _ _ h => h) (Or.inl ⟨by rfl, ?_⟩) (by assumption) ?_
  rotate_left
  · intro Wx hSw
    try dsimp only at hSw
    go_simp
    try with_reducible rfl
  try simp only [Act.put, List.setIfInBounds_toArray, List.set_cons_zero, List.set_cons_succ]
  refine wpAnyH_ready (rs := [6]) (by kernel_rfl) (by simp) (AllReadyH.cons rfl (fun KK hKK => ?_) AllReadyH.nil)
  go_simp
  refine (HKC.out _ (fr_nil HF0.out HG0.out)).mono ?_
  rintro e w2 ⟨K2, rfl, hk2, o2, f2⟩
  have HK2 := Lib.hid hk2
  have HO2 := Lib.hid o2
  have HG1 := Lib.hid (fr_nil HG0.out f2)
  clear hk2 o2 f2
  unfold Km.val Km.arr
  go_simp
  refine hKK.out _ _ (HS.out _ HG1.out) (fun hHeld => ?_)
  clear hKK KK
  refine wpAnyH_take (i := 11) (oi := { dst := some 18, op := _, type := _, pos := _, after := _, guard := _ }) (v := ?_) rfl (by kernel_rfl) (by kernel_rfl) (by kernel_rfl) (fun _ _ _ h => h) (Or.inl ⟨by rfl, ?_⟩) (by assumption) ?_
  rotate_left
  · intro Wx hSw
    try dsimp only at hSw
    go_simp
    try with_reducible rfl
  try simp only [Act.put, List.setIfInBounds_toArray, List.set_cons_zero, List.set_cons_succ]
  refine wpAnyH_ready (rs := [12]) (by kernel_rfl) (by simp) (AllReadyH.cons rfl (fun KK hKK => ?_) AllReadyH.nil)
  go_simp
  refine hKK.out _ _ (HS.out _ (HG1.out.alloc _)) (fun hHeld => ?_)
  clear hKK KK
  refine wpAnyH_take (i := 13) (oi := { dst := some 6, op := _, type := _, pos := _, after := _, guard := _ }) (v := ?_) rfl (by kernel_rfl) (by kernel_rfl) (by kernel_rfl) (fun _ _ _ h => h) (Or.inl ⟨by rfl, ?_⟩) (by assumption) ?_
  rotate_left
  · intro Wx hSw
    try dsimp only at hSw
    go_simp
    try with_reducible rfl
  try simp only [Act.put, List.setIfInBounds_toArray, List.set_cons_zero, List.set_cons_succ]
  refine wpAnyH_done (by kernel_rfl) ?_ _
  clear hHeld
  have hf := (fr_nil HF0.out HG1.out).alloc (.cells (cyArr V K2 C (!K.dirty)) 140)
  have hcy : Cy w (w2.alloc (.cells (cyArr V K2 C (!K.dirty)) 140)) w2.heap.size V K2 C (!K.dirty) :=
    ⟨Is.new w2 _ _, (HO2.out.base (fr_nil HF0.out HG0.out).size).fr ((Fr.refl (fun _ => False) w2).alloc _) fun _ _ => id, hf, (fr_nil HF0.out HG1.out).size, HV.out.fr hf, HC.out.fr hf⟩
  have HCY := Lib.hid hcy
  clear hf hcy
  go_wp2_with fail
  go_ret
  exact ⟨w2.heap.size, K2, rfl, HK2.out, HCY.out⟩
end Go.Proofs.YtginfnbdnkgjbaaGreat.Nk
/- The program's Step: a state and what the signals show, or an error (written by gen/step.py). -/
namespace Go.Proofs.YtginfnbdnkgjbaaGreat.Nk
open Go.RowKit Lk

/-- what a step comes to -/
def stepM (c : Cf) (v : Vp) (now : Int) (k : Kp) : Kp × List Int × Int :=
  if (fitsB c k && seesB c v) = false then (k, [], 21) else if tmB now = false then (k, [], 32) else (cycK c v now k, aspAll c (cycK c v now k) c.rts.length, 0)
/-- it comes in memory of its own -/
def StepE (w : World) (x : Kp × List Int × Int) (e : Ending) (w' : World) : Prop := ∃ (K1 : Km) (A : Option Addr) (c : Nat), e = .returned (.tuple #[K1.val, .slice A x.2.1.length c, .int .i64 x.2.2]) ∧ K1.kp = x.1 ∧ K1.Own w.heap.size w' ∧
  w'.ownsRow w.heap.size 3 1 (.slice A x.2.1.length c) x.2.1.length (x.2.1.map (Value.int .i64)) ∧ Fr (fun _ => False) w w'
theorem Cy.base {w0 w1 w : World} {sb : Nat} {V : Vm} {K : Km} {C : Cm} {rec : Bool} (h : Cy w1 w sb V K C rec) (f : Fr (fun _ => False) w0 w1) : Cy w0 w sb V K C rec := ⟨h.is, h.own.base f.size, fr_nil f h.f, Nat.le_trans f.size h.hb, h.vok, h.cok⟩
theorem kw_self (K : Km) : kw K K.kp = K := rfl
theorem box_put {v9 : World} {zb : Nat} {x0 x1 x2 x3 x4 x5 x6 : Value} (isr : Is v9 zb 35 #[x0, x1, x2, x3, x4, x5, x6]) (K2 : Km) : ∃ W, (((((((v9.setCell ⟨zb, 0, none⟩ (.slice K2.A1 K2.own.length K2.c1)).setCell ⟨zb, 1, none⟩ (.slice K2.A2 K2.rts.length K2.c2)).setCell ⟨zb, 2, none⟩ (.slice K2.A3 K2.pts.length K2.c3)).setCell ⟨zb, 3, none⟩ (.slice K2.A4 K2.crs.length K2.c4)).setCell ⟨zb, 4, none⟩ (.slice K2.A5 K2.lns.length K2.c5)).setCell ⟨zb, 5, none⟩ (.slice K2.A6 K2.rss.length K2.c6)).setCell ⟨zb, 6, none⟩ (.bool K2.dirty)) = W ∧ (W.cell? ⟨zb, 0, none⟩ = some (.slice K2.A1 K2.own.length K2.c1) ∧ W.cell? ⟨zb, 1, none⟩ = some (.slice K2.A2 K2.rts.length K2.c2) ∧ W.cell? ⟨zb, 2, none⟩ = some (.slice K2.A3 K2.pts.length K2.c3) ∧ W.cell? ⟨zb, 3, none⟩ = some (.slice K2.A4 K2.crs.length K2.c4) ∧ W.cell? ⟨zb, 4, none⟩ = some (.slice K2.A5 K2.lns.length K2.c5) ∧ W.cell? ⟨zb, 5, none⟩ = some (.slice K2.A6 K2.rss.length K2.c6) ∧ W.cell? ⟨zb, 6, none⟩ = some (.bool K2.dirty)) ∧ Fr (fun q => q = zb) v9 W := by
  have isR := (((((((isr.set 0 (.slice K2.A1 K2.own.length K2.c1)).set 1 (.slice K2.A2 K2.rts.length K2.c2)).set 2 (.slice K2.A3 K2.pts.length K2.c3)).set 3 (.slice K2.A4 K2.crs.length K2.c4)).set 4 (.slice K2.A5 K2.lns.length K2.c5)).set 5 (.slice K2.A6 K2.rss.length K2.c6)).set 6 (.bool K2.dirty))
  have fR := ((((((((Fr.refl (fun q => q = zb) v9).setCell (p := ⟨zb, 0, none⟩) (.inl rfl) (.slice K2.A1 K2.own.length K2.c1)).setCell (p := ⟨zb, 1, none⟩) (.inl rfl) (.slice K2.A2 K2.rts.length K2.c2)).setCell (p := ⟨zb, 2, none⟩) (.inl rfl) (.slice K2.A3 K2.pts.length K2.c3)).setCell (p := ⟨zb, 3, none⟩) (.inl rfl) (.slice K2.A4 K2.crs.length K2.c4)).setCell (p := ⟨zb, 4, none⟩) (.inl rfl) (.slice K2.A5 K2.lns.length K2.c5)).setCell (p := ⟨zb, 5, none⟩) (.inl rfl) (.slice K2.A6 K2.rss.length K2.c6)).setCell (p := ⟨zb, 6, none⟩) (.inl rfl) (.bool K2.dirty))
  simp only [List.setIfInBounds_toArray, List.set_cons_zero, List.set_cons_succ] at isR
  exact ⟨_, rfl, ⟨isR.cell 0, isR.cell 1, isR.cell 2, isR.cell 3, isR.cell 4, isR.cell 5, isR.cell 6⟩, fR⟩
theorem seesB_of {C : Cm} {V : Vm} (h : seesB C.cf V.vp = true) : Sees C V := by
  unfold seesB at h
  simp only [Bool.and_eq_true, decide_eq_true_eq] at h
  exact ⟨h.1, h.2.1, h.2.2.1, h.2.2.2⟩
set_option maxRecDepth 100000 in
set_option maxHeartbeats 16000000 in
theorem step_any {C : Cm} {K : Km} {V : Vm} {w : World} (hC : C.Ok w) (hK : K.Ok w) (hV : V.Ok w) (now : Int) :
    Calls Tryz.prog 39 #[C.val, K.val, V.val, .int .i64 now] w (StepE w (stepM C.cf V.vp now K.kp)) := by
  have KF := fun (W : World) (f : Fr (fun _ => False) w W) => kfits_any C K V W (hC.fr f) (hK.fr f)
  have KC := fun (W : World) (f : Fr (fun _ => False) w W) => copied_any K W (hK.fr f)
  have KB := fun (W : World) (f : Fr (fun _ => False) w W) => begin_any (hC.fr f) (hK.fr f) (hV.fr f)
  have h3 := three_new w C K V
  have f3 := (((Fr.refl (fun _ => False) w).alloc (.cells C.arr 30)).alloc (.cells K.arr 35)).alloc (.cells V.arr 83)
  have i3 := Is.new (((w.alloc (.cells C.arr 30)).alloc (.cells K.arr 35)).alloc (.cells V.arr 83)) 35 #[.slice none 0 0, .slice none 0 0, .slice none 0 0, .slice none 0 0, .slice none 0 0, .slice none 0 0, .bool false]
  have h3 := h3.fr ((Fr.refl (fun _ => False) _).alloc (.cells #[.slice none 0 0, .slice none 0 0, .slice none 0 0, .slice none 0 0, .slice none 0 0, .slice none 0 0, .bool false] 35))
  have f3 := f3.alloc (.cells #[.slice none 0 0, .slice none 0 0, .slice none 0 0, .slice none 0 0, .slice none 0 0, .slice none 0 0, .bool false] 35)
  have hsz : ((((w.alloc (.cells C.arr 30)).alloc (.cells K.arr 35)).alloc (.cells V.arr 83)).alloc (.cells #[.slice none 0 0, .slice none 0 0, .slice none 0 0, .slice none 0 0, .slice none 0 0, .slice none 0 0, .bool false] 35)).heap.size = w.heap.size + 4 := by simp
  simp only [World.size_alloc] at i3
  have HC := Lib.hid hC
  have HV := Lib.hid hV
  have HKF := Lib.hid KF
  have HKC := Lib.hid KC
  have HKB := Lib.hid KB
  have HF0 := Lib.hid f3
  have H3 := Lib.hid h3
  have HI := Lib.hid i3
  have HZ := Lib.hid hsz
  generalize hT : stepM C.cf V.vp now K.kp = T
  have HT := Lib.hid hT
  clear hC hK hV KF KC KB f3 h3 i3 hsz hT
  unfold Cm.val Km.val Vm.val Cm.arr Km.arr Vm.arr at *
  go_enter Tryz.func39, Tryz.ntmps39
  go_upto_region 1 with fail
  generalize ((((w.alloc _).alloc _).alloc _).alloc _) = w1 at *
  obtain ⟨p0, p1, p2, p3, p4, p5, p6, p7, p8, k0, k1, k2, k3, k4, k5, k6, v0, v1, v2, v3⟩ := H3.out.cells
  go_wp2_with fail
  refine (HKF.out _ HF0.out).mono ?_
  rintro e w2 ⟨rfl, f2⟩
  have HF2 := Lib.hid (fr_nil HF0.out f2)
  have H32 := Lib.hid (H3.out.fr f2)
  have HI2 := Lib.hid (HI.out.fr f2 id)
  have HZ2 : Hid (w.heap.size + 4 ≤ w2.heap.size) := Lib.hid (by have := f2.size; have := HZ.out; omega)
  clear p0 p1 p2 p3 p4 p5 p6 p7 p8 k0 k1 k2 k3 k4 k5 k6 v0 v1 v2 v3 f2 H3 HI HF0
  cases hok : (fitsB C.cf K.kp && seesB C.cf V.vp)
  · have HT2 : Hid (T = (K.kp, [], 21)) := Lib.hid (HT.out.symm.trans (if_pos hok))
    clear hok
    obtain ⟨p0, p1, p2, p3, p4, p5, p6, p7, p8, k0, k1, k2, k3, k4, k5, k6, v0, v1, v2, v3⟩ := H32.out.cells
    clear p0 p1 p2 p3 p4 p5 p6 p7 p8 v0 v1 v2 v3
    go_wp2_with fail
    refine (HKC.out _ HF2.out).mono ?_
    rintro _ v9 ⟨K2, rfl, hk2, o2, fv⟩
    have isr := HI2.out.fr fv id
    obtain ⟨m0, m1, m2, m3, m4, m5, m6⟩ := seven isr
    have z0 := isr.frozen 0
    have z1 := isr.frozen 1
    have z2 := isr.frozen 2
    have z3 := isr.frozen 3
    have z4 := isr.frozen 4
    have z5 := isr.frozen 5
    have z6 := isr.frozen 6
    have HO2 := Lib.hid o2
    have HK2 := Lib.hid hk2
    have HF9 := Lib.hid (fr_nil HF2.out fv)
    have HIR := Lib.hid isr
    clear k0 k1 k2 k3 k4 k5 k6 o2 hk2 fv isr
    unfold Km.val Km.arr
    go_wp2_with fail
    obtain ⟨W, hW, ⟨c0, c1, c2, c3, c4, c5, c6⟩, fR⟩ := box_put HIR.out K2
    rw [hW]
    clear hW m0 m1 m2 m3 m4 m5 m6 z0 z1 z2 z3 z4 z5 z6
    have hz2 := HZ2.out
    have HOW : K2.Own w.heap.size W := (HO2.out.fr fR fun k hk e => by have := (HO2.out.lt k hk).1; omega).base (by omega)
    have FW : Fr (fun _ => False) w W := HF9.out.trans fR fun k hk e => by omega
    refine bodyPost_ret (v := .tuple #[K2.val, .slice none 0 0, .int .i64 21]) ?_ rfl ⟨K2, none, 0, by rw [HT2.out]; rfl, by rw [HT2.out]; exact HK2.out, HOW, by rw [HT2.out]; exact World.ownsRow_nil W _ _ 1, FW⟩
    unfold Km.val Km.arr
    simp [results, Tryz.results39, go_sem, c0, c1, c2, c3, c4, c5, c6]
  · have hfit : fitsB C.cf K.kp = true := by rw [Bool.and_eq_true] at hok; exact hok.1
    have hsee : seesB C.cf V.vp = true := by rw [Bool.and_eq_true] at hok; exact hok.2
    cases htm : tmB now
    · have HT2 : Hid (T = (K.kp, [], 32)) := Lib.hid (HT.out.symm.trans ((if_neg (by rw [hok]; decide)).trans (if_pos htm)))
      have hcase : now < 0 ∨ ¬ now < 0 ∧ 4294967295 < now := by have := inB_no.1 htm; omega
      obtain ⟨p0, p1, p2, p3, p4, p5, p6, p7, p8, k0, k1, k2, k3, k4, k5, k6, v0, v1, v2, v3⟩ := H32.out.cells
      clear p0 p1 p2 p3 p4 p5 p6 p7 p8 v0 v1 v2 v3 hok htm hfit hsee
      rcases hcase with hn | ⟨hn1, hn⟩
      · have e1 : decide (now < 0) = true := decide_eq_true hn
        clear hn
        go_wp2_with fail
        refine (HKC.out _ HF2.out).mono ?_
        rintro _ v9 ⟨K2, rfl, hk2, o2, fv⟩
        have isr := HI2.out.fr fv id
        obtain ⟨m0, m1, m2, m3, m4, m5, m6⟩ := seven isr
        have z0 := isr.frozen 0
        have z1 := isr.frozen 1
        have z2 := isr.frozen 2
        have z3 := isr.frozen 3
        have z4 := isr.frozen 4
        have z5 := isr.frozen 5
        have z6 := isr.frozen 6
        have HO2 := Lib.hid o2
        have HK2 := Lib.hid hk2
        have HF9 := Lib.hid (fr_nil HF2.out fv)
        have HIR := Lib.hid isr
        clear k0 k1 k2 k3 k4 k5 k6 o2 hk2 fv isr
        unfold Km.val Km.arr
        go_wp2_with fail
        obtain ⟨W, hW, ⟨c0, c1, c2, c3, c4, c5, c6⟩, fR⟩ := box_put HIR.out K2
        rw [hW]
        clear hW m0 m1 m2 m3 m4 m5 m6 z0 z1 z2 z3 z4 z5 z6
        have hz2 := HZ2.out
        have HOW : K2.Own w.heap.size W := (HO2.out.fr fR fun k hk e => by have := (HO2.out.lt k hk).1; omega).base (by omega)
        have FW : Fr (fun _ => False) w W := HF9.out.trans fR fun k hk e => by omega
        refine bodyPost_ret (v := .tuple #[K2.val, .slice none 0 0, .int .i64 32]) ?_ rfl ⟨K2, none, 0, by rw [HT2.out]; rfl, by rw [HT2.out]; exact HK2.out, HOW, by rw [HT2.out]; exact World.ownsRow_nil W _ _ 1, FW⟩
        unfold Km.val Km.arr
        simp [results, Tryz.results39, go_sem, c0, c1, c2, c3, c4, c5, c6]
      · have e1 : decide (now < 0) = false := decide_eq_false hn1
        have e2 : decide (now > 4294967295) = true := decide_eq_true hn
        clear hn hn1
        go_wp2_with fail
        refine (HKC.out _ HF2.out).mono ?_
        rintro _ v9 ⟨K2, rfl, hk2, o2, fv⟩
        have isr := HI2.out.fr fv id
        obtain ⟨m0, m1, m2, m3, m4, m5, m6⟩ := seven isr
        have z0 := isr.frozen 0
        have z1 := isr.frozen 1
        have z2 := isr.frozen 2
        have z3 := isr.frozen 3
        have z4 := isr.frozen 4
        have z5 := isr.frozen 5
        have z6 := isr.frozen 6
        have HO2 := Lib.hid o2
        have HK2 := Lib.hid hk2
        have HF9 := Lib.hid (fr_nil HF2.out fv)
        have HIR := Lib.hid isr
        clear k0 k1 k2 k3 k4 k5 k6 o2 hk2 fv isr
        unfold Km.val Km.arr
        go_wp2_with fail
        obtain ⟨W, hW, ⟨c0, c1, c2, c3, c4, c5, c6⟩, fR⟩ := box_put HIR.out K2
        rw [hW]
        clear hW m0 m1 m2 m3 m4 m5 m6 z0 z1 z2 z3 z4 z5 z6
        have hz2 := HZ2.out
        have HOW : K2.Own w.heap.size W := (HO2.out.fr fR fun k hk e => by have := (HO2.out.lt k hk).1; omega).base (by omega)
        have FW : Fr (fun _ => False) w W := HF9.out.trans fR fun k hk e => by omega
        refine bodyPost_ret (v := .tuple #[K2.val, .slice none 0 0, .int .i64 32]) ?_ rfl ⟨K2, none, 0, by rw [HT2.out]; rfl, by rw [HT2.out]; exact HK2.out, HOW, by rw [HT2.out]; exact World.ownsRow_nil W _ _ 1, FW⟩
        unfold Km.val Km.arr
        simp [results, Tryz.results39, go_sem, c0, c1, c2, c3, c4, c5, c6]
    · have HT2 : Hid (T = (cycK C.cf V.vp now K.kp, aspAll C.cf (cycK C.cf V.vp now K.kp) C.rs.length, 0)) := Lib.hid (HT.out.symm.trans ((if_neg (by rw [hok]; decide)).trans ((if_neg (by rw [htm]; decide)).trans (by rw [show C.cf.rts.length = C.rs.length by unfold Cm.cf; simp]))))
      have htb := tm_iff.1 htm
      have e1 : decide (now < 0) = false := decide_eq_false (by omega)
      have e2 : decide (now > 4294967295) = false := decide_eq_false (by omega)
      have F := fits_iff.1 hfit
      have hs := seesB_of hsee
      have hv2 := HV.out.fr HF2.out
      have hc2 := HC.out.fr HF2.out
      obtain ⟨p0, p1, p2, p3, p4, p5, p6, p7, p8, k0, k1, k2, k3, k4, k5, k6, v0, v1, v2, v3⟩ := H32.out.cells
      clear hok hfit hsee
      have HTM := Lib.hid htm
      have HFI := Lib.hid F
      clear htm F htb
      go_wp2_with fail
      refine (HKB.out _ HF2.out).mono ?_
      rintro _ w3 ⟨sb, K2, rfl, hk2, hcy⟩
      have hcy : Cy w2 w3 sb V (kw K2 K.kp) C (!K.dirty) := by rw [← hk2, kw_self]; exact hcy
      have K1 := goOn_any hcy hv2 hc2 HFI.out hs HTM.out
      clear p0 p1 p2 p3 p4 p5 p6 p7 p8 k0 k1 k2 k3 k4 k5 k6 v0 v1 v2 v3 hk2 hcy e1 e2
      go_wp2_with fail
      refine K1.mono ?_
      clear K1
      rintro _ w4 ⟨rfl, h4⟩
      have F1 := goAll_fit (v := V.vp) (rec := !K.dirty) HFI.out HTM.out C.rs.length (by unfold Cm.cf; simp)
      have r1 := goAll_rss C.cf V.vp (!K.dirty) now K.kp C.rs.length
      have K1 := crossings_any h4 hv2 hc2 F1 now
      have hcyc : cycK C.cf V.vp now K.kp = resAll V.vp (crossAll C.cf now (goAll C.cf V.vp (!K.dirty) now K.kp C.rs.length) C.cr.length) K.kp.rss.length := by
        unfold cycK
        rw [show C.cf.rts.length = C.rs.length by unfold Cm.cf; simp]
        rfl
      generalize goAll C.cf V.vp (!K.dirty) now K.kp C.rs.length = ka at *
      clear h4
      go_wp2_with fail
      refine K1.mono ?_
      clear K1
      rintro _ w5 ⟨rfl, h5⟩
      have F2 := crossAll_fit F1 HTM.out C.cr.length
      have r2 := (crossAll_same C.cf now ka C.cr.length).2.2.1
      generalize crossAll C.cf now ka C.cr.length = kb at *
      have hl2 : kb.rss.length = C.l.length := F2.l6
      have h24 := (right_small HFI.out.chk).1
      have K1 := doResets_any h5 hv2 hc2 (F2.l1.trans F2.l6.symm) (by rw [hl2]; exact h24) (fun n hn => inB_iff.1 (F2.rss n hn)) (hs.occ.trans hl2.symm)
      rw [show K.kp.rss.length = kb.rss.length by rw [r2, r1]] at hcyc
      rw [← hcyc] at K1
      have F3 : FitP C.cf (cycK C.cf V.vp now K.kp) := cyc_fit HFI.out HTM.out
      generalize cycK C.cf V.vp now K.kp = kc at *
      clear h5 hcyc F1 F2 r1 r2 hl2 h24
      go_wp2_with fail
      refine K1.mono ?_
      clear K1
      rintro _ w6 ⟨rfl, h6⟩
      have KA := fun (W : World) (h : Cy w W sb V (kw K2 kc) C (!K.dirty)) => aspects_any h HV.out HC.out F3
      have HK3 : Hid ((kw K2 kc).kp = kc) := Lib.hid rfl
      have HASL : Hid ((aspAll C.cf kc C.rs.length).length = C.sg.length) := Lib.hid (aspAll_len ..)
      have HI6 := Lib.hid (HI2.out.fr h6.f id)
      have hz6 := h6.f.size
      have h7 := h6.base HF2.out
      generalize kw K2 kc = K3 at *
      have hna : ¬ K3.at (w.heap.size + 1 + 1 + 1) := h7.own.ne_is HI6.out (by decide) (by decide) (by decide) (by decide)
      have hns : sb ≠ w.heap.size + 1 + 1 + 1 := fun e => is_ne h7.is HI6.out (by decide) e
      have HS : Hid (∀ W, Fr (fun q => q = w.heap.size + 1 + 1 + 1) w6.drew W → W.cell? ⟨sb, 5, none⟩ = some (.slice K3.A1 K3.own.length K3.c1) ∧ W.cell? ⟨sb, 6, none⟩ = some (.slice K3.A2 K3.rts.length K3.c2) ∧ W.cell? ⟨sb, 7, none⟩ = some (.slice K3.A3 K3.pts.length K3.c3) ∧ W.cell? ⟨sb, 8, none⟩ = some (.slice K3.A4 K3.crs.length K3.c4) ∧ W.cell? ⟨sb, 9, none⟩ = some (.slice K3.A5 K3.lns.length K3.c5) ∧ W.cell? ⟨sb, 10, none⟩ = some (.slice K3.A6 K3.rss.length K3.c6) ∧ W.cell? ⟨sb, 11, none⟩ = some (.bool K3.dirty)) := Lib.hid fun W f => by
        have b := (h7.drew.is).fr f hns
        exact ⟨b.cell 5, b.cell 6, b.cell 7, b.cell 8, b.cell 9, b.cell 10, b.cell 11⟩
      have HKA := Lib.hid (fun (W : World) (f : Fr (fun _ => False) w6.drew W) => KA W (h7.drew.fr f))
      have H6 := Lib.hid h7
      have HF6 := Lib.hid h7.f
      have HNA := Lib.hid hna
      have HZ6 : Hid (w2.heap.size ≤ w6.heap.size) := Lib.hid hz6
      have HG0 := Lib.hid (Fr.refl (fun _ => False) w6).drew
      have HI6d := Lib.hid HI6.out.drew
      clear KA h6 h7 hz6 hna hns hv2 hc2
      go_upto_region 9 with fail
      refine wp_region_held_drew (S := (fun W => W.cell? ⟨sb, 5, none⟩ = some (.slice K3.A1 K3.own.length K3.c1) ∧ W.cell? ⟨sb, 6, none⟩ = some (.slice K3.A2 K3.rts.length K3.c2) ∧ W.cell? ⟨sb, 7, none⟩ = some (.slice K3.A3 K3.pts.length K3.c3) ∧ W.cell? ⟨sb, 8, none⟩ = some (.slice K3.A4 K3.crs.length K3.c4) ∧ W.cell? ⟨sb, 9, none⟩ = some (.slice K3.A5 K3.lns.length K3.c5) ∧ W.cell? ⟨sb, 10, none⟩ = some (.slice K3.A6 K3.rss.length K3.c6) ∧ W.cell? ⟨sb, 11, none⟩ = some (.bool K3.dirty))) (by kernel_rfl) (HS.out _ (Fr.refl _ _)) (fun hHeld => ?_)
      generalize w6.drew = wd at *
      refine wpAnyH_take (i := 0) (oi := { dst := some 41, op := _, type := _, pos := _, after := _, guard := _ }) (v := ?_) rfl (by kernel_rfl) (by kernel_rfl) (by kernel_rfl) (fun _ _ _ h => h) (Or.inl ⟨by rfl, ?_⟩) (by assumption) ?_
      rotate_left
      · intro Wx hSw
        try dsimp only at hSw
        go_simp
        try with_reducible rfl
      try simp only [Act.put, List.setIfInBounds_toArray, List.set_cons_zero, List.set_cons_succ]
      refine wpAnyH_take (i := 1) (oi := { dst := some 42, op := _, type := _, pos := _, after := _, guard := _ }) (v := ?_) rfl (by kernel_rfl) (by kernel_rfl) (by kernel_rfl) (fun _ _ _ h => h) (Or.inl ⟨by rfl, ?_⟩) (by assumption) ?_
      rotate_left
      · intro Wx hSw
        try dsimp only at hSw
        go_simp
        try with_reducible rfl
      try simp only [Act.put, List.setIfInBounds_toArray, List.set_cons_zero, List.set_cons_succ]
      refine wpAnyH_take (i := 2) (oi := { dst := some 43, op := _, type := _, pos := _, after := _, guard := _ }) (v := ?_) rfl (by kernel_rfl) (by kernel_rfl) (by kernel_rfl) (fun _ _ _ h => h) (Or.inl ⟨by rfl, ?_⟩) (by assumption) ?_
      rotate_left
      · intro Wx hSw
        try dsimp only at hSw
        go_simp
        try with_reducible rfl
      try simp only [Act.put, List.setIfInBounds_toArray, List.set_cons_zero, List.set_cons_succ]
      refine wpAnyH_take (i := 3) (oi := { dst := some 44, op := _, type := _, pos := _, after := _, guard := _ }) (v := ?_) rfl (by kernel_rfl) (by kernel_rfl) (by kernel_rfl) (fun _ _ _ h => h) (Or.inl ⟨by rfl, ?_⟩) (by assumption) ?_
      rotate_left
      · intro Wx hSw
        try dsimp only at hSw
        go_simp
        try with_reducible rfl
      try simp only [Act.put, List.setIfInBounds_toArray, List.set_cons_zero, List.set_cons_succ]
      refine wpAnyH_take (i := 4) (oi := { dst := some 45, op := _, type := _, pos := _, after := _, guard := _ }) (v := ?_) rfl (by kernel_rfl) (by kernel_rfl) (by kernel_rfl) (fun _ _ _ h => h) (Or.inl ⟨by rfl, ?_⟩) (by assumption) ?_
      rotate_left
      · intro Wx hSw
        try dsimp only at hSw
        go_simp
        try with_reducible rfl
      try simp only [Act.put, List.setIfInBounds_toArray, List.set_cons_zero, List.set_cons_succ]
      refine wpAnyH_ready (rs := [5]) (by kernel_rfl) (by simp) (AllReadyH.cons rfl (fun KK hKK => ?_) AllReadyH.nil)
      go_simp
      refine (HKA.out _ (Fr.refl _ _)).mono ?_
      rintro e v9 ⟨g, rfl, ho, fv⟩
      have isr := HI6d.out.fr fv id
      have HO := Lib.hid ho
      have HG1 := Lib.hid fv
      refine hKK.out _ _ (HS.out _ ((Fr.refl _ _).trans HG1.out fun _ _ e => e.elim)) (fun hHeld => ?_)
      clear hKK KK
      obtain ⟨m0, m1, m2, m3, m4, m5, m6⟩ := seven isr
      have z0 := isr.frozen 0
      have z1 := isr.frozen 1
      have z2 := isr.frozen 2
      have z3 := isr.frozen 3
      have z4 := isr.frozen 4
      have z5 := isr.frozen 5
      have z6 := isr.frozen 6
      obtain ⟨W, hW, ⟨c0, c1, c2, c3, c4, c5, c6⟩, fR⟩ := box_put isr K3
      have HR := Lib.hid fR
      have HC0 := Lib.hid (And.intro c0 (And.intro c1 (And.intro c2 (And.intro c3 (And.intro c4 (And.intro c5 c6))))))
      have HW := Lib.hid hW
      clear fR c0 c1 c2 c3 c4 c5 c6 hW isr ho fv
      refine wpAnyH_ready (rs := [6]) (by kernel_rfl) (by simp) (AllReadyH.cons rfl (fun KK hKK => ?_) AllReadyH.nil)
      go_simp
      rw [HW.out]
      refine hKK.out _ _ (HS.out _ (((Fr.refl _ _).trans HG1.out fun _ _ e => e.elim).trans HR.out fun _ _ e => e)) (fun hHeld => ?_)
      clear hKK KK m0 m1 m2 m3 m4 m5 m6 z0 z1 z2 z3 z4 z5 z6
      refine wpAnyH_take (i := 7) (oi := { dst := some 9, op := _, type := _, pos := _, after := _, guard := _ }) (v := ?_) rfl (by kernel_rfl) (by kernel_rfl) (by kernel_rfl) (fun _ _ _ h => h) (Or.inl ⟨by rfl, ?_⟩) (by assumption) ?_
      rotate_left
      · intro Wx hSw
        try dsimp only at hSw
        go_simp
        try with_reducible rfl
      try simp only [Act.put, List.setIfInBounds_toArray, List.set_cons_zero, List.set_cons_succ]
      refine wpAnyH_take (i := 8) (oi := { dst := some 10, op := _, type := _, pos := _, after := _, guard := _ }) (v := ?_) rfl (by kernel_rfl) (by kernel_rfl) (by kernel_rfl) (fun _ _ _ h => h) (Or.inl ⟨by rfl, ?_⟩) (by assumption) ?_
      rotate_left
      · intro Wx hSw
        try dsimp only at hSw
        go_simp
        try with_reducible rfl
      try simp only [Act.put, List.setIfInBounds_toArray, List.set_cons_zero, List.set_cons_succ]
      refine wpAnyH_done (by kernel_rfl) ?_ _
      clear hHeld
      go_wp2_with fail
      obtain ⟨c0, c1, c2, c3, c4, c5, c6⟩ := HC0.out
      have hz2 := HZ2.out
      have hz6 := HZ6.out
      have hz0 := HG0.out.size
      have HOW : K3.Own w.heap.size W := ((H6.out.own.fr (fr_nil HG0.out HG1.out) fun _ _ => id)).fr HR.out fun k hk e => HNA.out (e ▸ hk)
      have FW : Fr (fun _ => False) w W := (fr_nil HF6.out (fr_nil HG0.out HG1.out)).trans HR.out fun k hk e => by omega
      have HOR := wide_fr HO.out HR.out fun q hq e => by have := (World.ownsRow.lt HO.out q hq).1; omega
      refine bodyPost_ret (v := .tuple #[K3.val, .slice (some ⟨g, 0, none⟩) C.sg.length C.sg.length, .int .i64 0]) ?_ rfl ⟨K3, some ⟨g, 0, none⟩, C.sg.length, by rw [HT2.out, HASL.out], by rw [HT2.out]; exact HK3.out, HOW, by rw [HT2.out, HASL.out]; exact own_base HOR (by omega), FW⟩
      unfold Km.val Km.arr
      simp [results, Tryz.results39, go_sem, c0, c1, c2, c3, c4, c5, c6]
end Go.Proofs.YtginfnbdnkgjbaaGreat.Nk
/- A view that a law puts together: all seen well at a time (written by gen/seen.py). -/
namespace Go.Proofs.YtginfnbdnkgjbaaGreat.Nk
open Go.RowKit Lk
theorem Tryz.infoLk : (Tryz.prog.info? 92).map (fun i => (i.zero, i.size, i.bytes)) = some (some (.agg #[.int .i64 0, .int .i64 0, .bool false]), 3, 24) := by kernel_rfl
/-- a view behind its address, each list a memory of its own -/
structure Sv (w0 w : World) (vb : Nat) (V : Vm) : Prop where
  is : Is w vb 83 V.arr
  o0 : w.ownsRow w0.heap.size 92 3 (.slice V.A1 V.occ.length V.c1) V.occ.length (V.occ.flatMap cLo)
  o1 : w.ownsRow w0.heap.size 92 3 (.slice V.A2 V.pos.length V.c2) V.pos.length (V.pos.flatMap cLo)
  o2 : w.ownsRow w0.heap.size 92 3 (.slice V.A3 V.shut.length V.c3) V.shut.length (V.shut.flatMap cLo)
  o3 : w.ownsRow w0.heap.size 92 3 (.slice V.A4 V.lamp.length V.c4) V.lamp.length (V.lamp.flatMap cLo)
  d01 : ∀ k, blk V.A1 = some k → blk V.A2 ≠ some k
  d02 : ∀ k, blk V.A1 = some k → blk V.A3 ≠ some k
  d03 : ∀ k, blk V.A1 = some k → blk V.A4 ≠ some k
  d12 : ∀ k, blk V.A2 = some k → blk V.A3 ≠ some k
  d13 : ∀ k, blk V.A2 = some k → blk V.A4 ≠ some k
  d23 : ∀ k, blk V.A3 = some k → blk V.A4 ≠ some k
  f : Fr (fun _ => False) w0 w
  hb : w0.heap.size ≤ vb
theorem Sv.fr {w0 w w1 : World} {vb : Nat} {V : Vm} (h : Sv w0 w vb V) (f : Fr (fun _ => False) w w1) : Sv w0 w1 vb V :=
  { h with is := h.is.fr f id, o0 := wide_fr h.o0 f fun _ _ => id, o1 := wide_fr h.o1 f fun _ _ => id, o2 := wide_fr h.o2 f fun _ _ => id, o3 := wide_fr h.o3 f fun _ _ => id, f := fr_nil h.f f }
theorem Sv.ok {w0 w : World} {vb : Nat} {V : Vm} (h : Sv w0 w vb V) : V.Ok w := ⟨wide_rd h.o0, wide_rd h.o1, wide_rd h.o2, wide_rd h.o3⟩
theorem Sv.push0 {w0 w w5 : World} {vb : Nat} {V : Vm} (h : Sv w0 w vb V) {A' : Option Addr} {c' : Nat} {x : Lo} (o : w5.ownsRow w0.heap.size 92 3 (.slice A' (V.occ.length + 1) c') (V.occ.length + 1) (V.occ.flatMap cLo ++ cLo x)) (g : w.grownBy w5 (blk V.A1)) (hn : blk A' = blk V.A1 ∨ blk A' = some w.heap.size) :
    Sv w0 (w5.setCell ⟨vb, 0, none⟩ (.slice A' (V.occ.length + 1) c')) vb { V with A1 := A', c1 := c', occ := V.occ ++ [x] } := by
  have fg : Fr (fun q => blk V.A1 = some q) w w5 := (Fr.refl _ w).grown g fun _ hq => .inl hq
  have hlt := fun q (hq : blk V.A1 = some q) => World.ownsRow.lt h.o0 q (by rw [own_blk]; exact hq)
  have hvb : ¬ blk V.A1 = some vb := fun e => wide_is_ne h.o0 h.is (by decide) (by rw [own_blk]; exact e)
  have is5 : Is w5 vb 83 V.arr := h.is.fr fg hvb
  have fs : Fr (fun q => q = vb) w5 (w5.setCell ⟨vb, 0, none⟩ (.slice A' (V.occ.length + 1) c')) := far 0 (.slice A' (V.occ.length + 1) c') rfl
  have nv : ¬ blk A' = some vb := fun e => wide_is_ne o is5 (by decide) (by rw [own_blk]; exact e)
  have n1 : ∀ q, blk V.A2 = some q → ¬ blk V.A1 = some q := fun q hq e => h.d01 q e hq
  have l1 : ∀ q, blk V.A2 = some q → q < w.heap.size := fun q hq => (World.ownsRow.lt h.o1 q (by rw [own_blk]; exact hq)).2
  have p1 := wide_fr (wide_fr h.o1 fg fun q hq => n1 q (by rw [own_blk] at hq; exact hq)) fs fun q hq e => wide_is_ne h.o1 h.is (by decide) (by subst e; exact hq)
  have q1 : ∀ k, blk A' = some k → blk V.A2 ≠ some k := fun k e hq => by
    rcases hn with hn | hn
    · exact n1 k hq (hn ▸ e)
    · rw [hn] at e
      injection e with e
      have := l1 k hq
      omega
  have n2 : ∀ q, blk V.A3 = some q → ¬ blk V.A1 = some q := fun q hq e => h.d02 q e hq
  have l2 : ∀ q, blk V.A3 = some q → q < w.heap.size := fun q hq => (World.ownsRow.lt h.o2 q (by rw [own_blk]; exact hq)).2
  have p2 := wide_fr (wide_fr h.o2 fg fun q hq => n2 q (by rw [own_blk] at hq; exact hq)) fs fun q hq e => wide_is_ne h.o2 h.is (by decide) (by subst e; exact hq)
  have q2 : ∀ k, blk A' = some k → blk V.A3 ≠ some k := fun k e hq => by
    rcases hn with hn | hn
    · exact n2 k hq (hn ▸ e)
    · rw [hn] at e
      injection e with e
      have := l2 k hq
      omega
  have n3 : ∀ q, blk V.A4 = some q → ¬ blk V.A1 = some q := fun q hq e => h.d03 q e hq
  have l3 : ∀ q, blk V.A4 = some q → q < w.heap.size := fun q hq => (World.ownsRow.lt h.o3 q (by rw [own_blk]; exact hq)).2
  have p3 := wide_fr (wide_fr h.o3 fg fun q hq => n3 q (by rw [own_blk] at hq; exact hq)) fs fun q hq e => wide_is_ne h.o3 h.is (by decide) (by subst e; exact hq)
  have q3 : ∀ k, blk A' = some k → blk V.A4 ≠ some k := fun k e hq => by
    rcases hn with hn | hn
    · exact n3 k hq (hn ▸ e)
    · rw [hn] at e
      injection e with e
      have := l3 k hq
      omega
  have e1 : (V.occ ++ [x]).length = V.occ.length + 1 := by simp
  have i9 := is5.set 0 (.slice A' (V.occ.length + 1) c')
  exact { is := (by unfold Vm.arr at i9 ⊢; simp only [e1]; exact i9), o0 := (by have := wide_fr o fs fun q hq e => nv (by subst e; rw [own_blk] at hq; exact hq); simpa using this), o1 := p1, o2 := p2, o3 := p3, d01 := q1, d02 := q2, d03 := q3, d12 := h.d12, d13 := h.d13, d23 := h.d23, f := (h.f.trans fg fun q hq e => by have := (hlt q e).1; omega).trans fs fun q hq e => by have := h.hb; omega, hb := h.hb }
theorem Sv.push1 {w0 w w5 : World} {vb : Nat} {V : Vm} (h : Sv w0 w vb V) {A' : Option Addr} {c' : Nat} {x : Lo} (o : w5.ownsRow w0.heap.size 92 3 (.slice A' (V.pos.length + 1) c') (V.pos.length + 1) (V.pos.flatMap cLo ++ cLo x)) (g : w.grownBy w5 (blk V.A2)) (hn : blk A' = blk V.A2 ∨ blk A' = some w.heap.size) :
    Sv w0 (w5.setCell ⟨vb, 1, none⟩ (.slice A' (V.pos.length + 1) c')) vb { V with A2 := A', c2 := c', pos := V.pos ++ [x] } := by
  have fg : Fr (fun q => blk V.A2 = some q) w w5 := (Fr.refl _ w).grown g fun _ hq => .inl hq
  have hlt := fun q (hq : blk V.A2 = some q) => World.ownsRow.lt h.o1 q (by rw [own_blk]; exact hq)
  have hvb : ¬ blk V.A2 = some vb := fun e => wide_is_ne h.o1 h.is (by decide) (by rw [own_blk]; exact e)
  have is5 : Is w5 vb 83 V.arr := h.is.fr fg hvb
  have fs : Fr (fun q => q = vb) w5 (w5.setCell ⟨vb, 1, none⟩ (.slice A' (V.pos.length + 1) c')) := far 1 (.slice A' (V.pos.length + 1) c') rfl
  have nv : ¬ blk A' = some vb := fun e => wide_is_ne o is5 (by decide) (by rw [own_blk]; exact e)
  have n0 : ∀ q, blk V.A1 = some q → ¬ blk V.A2 = some q := fun q hq e => h.d01 q hq e
  have l0 : ∀ q, blk V.A1 = some q → q < w.heap.size := fun q hq => (World.ownsRow.lt h.o0 q (by rw [own_blk]; exact hq)).2
  have p0 := wide_fr (wide_fr h.o0 fg fun q hq => n0 q (by rw [own_blk] at hq; exact hq)) fs fun q hq e => wide_is_ne h.o0 h.is (by decide) (by subst e; exact hq)
  have q0 : ∀ k, blk A' = some k → blk V.A1 ≠ some k := fun k e hq => by
    rcases hn with hn | hn
    · exact n0 k hq (hn ▸ e)
    · rw [hn] at e
      injection e with e
      have := l0 k hq
      omega
  have n2 : ∀ q, blk V.A3 = some q → ¬ blk V.A2 = some q := fun q hq e => h.d12 q e hq
  have l2 : ∀ q, blk V.A3 = some q → q < w.heap.size := fun q hq => (World.ownsRow.lt h.o2 q (by rw [own_blk]; exact hq)).2
  have p2 := wide_fr (wide_fr h.o2 fg fun q hq => n2 q (by rw [own_blk] at hq; exact hq)) fs fun q hq e => wide_is_ne h.o2 h.is (by decide) (by subst e; exact hq)
  have q2 : ∀ k, blk A' = some k → blk V.A3 ≠ some k := fun k e hq => by
    rcases hn with hn | hn
    · exact n2 k hq (hn ▸ e)
    · rw [hn] at e
      injection e with e
      have := l2 k hq
      omega
  have n3 : ∀ q, blk V.A4 = some q → ¬ blk V.A2 = some q := fun q hq e => h.d13 q e hq
  have l3 : ∀ q, blk V.A4 = some q → q < w.heap.size := fun q hq => (World.ownsRow.lt h.o3 q (by rw [own_blk]; exact hq)).2
  have p3 := wide_fr (wide_fr h.o3 fg fun q hq => n3 q (by rw [own_blk] at hq; exact hq)) fs fun q hq e => wide_is_ne h.o3 h.is (by decide) (by subst e; exact hq)
  have q3 : ∀ k, blk A' = some k → blk V.A4 ≠ some k := fun k e hq => by
    rcases hn with hn | hn
    · exact n3 k hq (hn ▸ e)
    · rw [hn] at e
      injection e with e
      have := l3 k hq
      omega
  have e1 : (V.pos ++ [x]).length = V.pos.length + 1 := by simp
  have i9 := is5.set 1 (.slice A' (V.pos.length + 1) c')
  exact { is := (by unfold Vm.arr at i9 ⊢; simp only [e1]; exact i9), o0 := p0, o1 := (by have := wide_fr o fs fun q hq e => nv (by subst e; rw [own_blk] at hq; exact hq); simpa using this), o2 := p2, o3 := p3, d01 := fun k e hq => q0 k hq e, d02 := h.d02, d03 := h.d03, d12 := q2, d13 := q3, d23 := h.d23, f := (h.f.trans fg fun q hq e => by have := (hlt q e).1; omega).trans fs fun q hq e => by have := h.hb; omega, hb := h.hb }
theorem Sv.push2 {w0 w w5 : World} {vb : Nat} {V : Vm} (h : Sv w0 w vb V) {A' : Option Addr} {c' : Nat} {x : Lo} (o : w5.ownsRow w0.heap.size 92 3 (.slice A' (V.shut.length + 1) c') (V.shut.length + 1) (V.shut.flatMap cLo ++ cLo x)) (g : w.grownBy w5 (blk V.A3)) (hn : blk A' = blk V.A3 ∨ blk A' = some w.heap.size) :
    Sv w0 (w5.setCell ⟨vb, 2, none⟩ (.slice A' (V.shut.length + 1) c')) vb { V with A3 := A', c3 := c', shut := V.shut ++ [x] } := by
  have fg : Fr (fun q => blk V.A3 = some q) w w5 := (Fr.refl _ w).grown g fun _ hq => .inl hq
  have hlt := fun q (hq : blk V.A3 = some q) => World.ownsRow.lt h.o2 q (by rw [own_blk]; exact hq)
  have hvb : ¬ blk V.A3 = some vb := fun e => wide_is_ne h.o2 h.is (by decide) (by rw [own_blk]; exact e)
  have is5 : Is w5 vb 83 V.arr := h.is.fr fg hvb
  have fs : Fr (fun q => q = vb) w5 (w5.setCell ⟨vb, 2, none⟩ (.slice A' (V.shut.length + 1) c')) := far 2 (.slice A' (V.shut.length + 1) c') rfl
  have nv : ¬ blk A' = some vb := fun e => wide_is_ne o is5 (by decide) (by rw [own_blk]; exact e)
  have n0 : ∀ q, blk V.A1 = some q → ¬ blk V.A3 = some q := fun q hq e => h.d02 q hq e
  have l0 : ∀ q, blk V.A1 = some q → q < w.heap.size := fun q hq => (World.ownsRow.lt h.o0 q (by rw [own_blk]; exact hq)).2
  have p0 := wide_fr (wide_fr h.o0 fg fun q hq => n0 q (by rw [own_blk] at hq; exact hq)) fs fun q hq e => wide_is_ne h.o0 h.is (by decide) (by subst e; exact hq)
  have q0 : ∀ k, blk A' = some k → blk V.A1 ≠ some k := fun k e hq => by
    rcases hn with hn | hn
    · exact n0 k hq (hn ▸ e)
    · rw [hn] at e
      injection e with e
      have := l0 k hq
      omega
  have n1 : ∀ q, blk V.A2 = some q → ¬ blk V.A3 = some q := fun q hq e => h.d12 q hq e
  have l1 : ∀ q, blk V.A2 = some q → q < w.heap.size := fun q hq => (World.ownsRow.lt h.o1 q (by rw [own_blk]; exact hq)).2
  have p1 := wide_fr (wide_fr h.o1 fg fun q hq => n1 q (by rw [own_blk] at hq; exact hq)) fs fun q hq e => wide_is_ne h.o1 h.is (by decide) (by subst e; exact hq)
  have q1 : ∀ k, blk A' = some k → blk V.A2 ≠ some k := fun k e hq => by
    rcases hn with hn | hn
    · exact n1 k hq (hn ▸ e)
    · rw [hn] at e
      injection e with e
      have := l1 k hq
      omega
  have n3 : ∀ q, blk V.A4 = some q → ¬ blk V.A3 = some q := fun q hq e => h.d23 q e hq
  have l3 : ∀ q, blk V.A4 = some q → q < w.heap.size := fun q hq => (World.ownsRow.lt h.o3 q (by rw [own_blk]; exact hq)).2
  have p3 := wide_fr (wide_fr h.o3 fg fun q hq => n3 q (by rw [own_blk] at hq; exact hq)) fs fun q hq e => wide_is_ne h.o3 h.is (by decide) (by subst e; exact hq)
  have q3 : ∀ k, blk A' = some k → blk V.A4 ≠ some k := fun k e hq => by
    rcases hn with hn | hn
    · exact n3 k hq (hn ▸ e)
    · rw [hn] at e
      injection e with e
      have := l3 k hq
      omega
  have e1 : (V.shut ++ [x]).length = V.shut.length + 1 := by simp
  have i9 := is5.set 2 (.slice A' (V.shut.length + 1) c')
  exact { is := (by unfold Vm.arr at i9 ⊢; simp only [e1]; exact i9), o0 := p0, o1 := p1, o2 := (by have := wide_fr o fs fun q hq e => nv (by subst e; rw [own_blk] at hq; exact hq); simpa using this), o3 := p3, d01 := h.d01, d02 := fun k e hq => q0 k hq e, d03 := h.d03, d12 := fun k e hq => q1 k hq e, d13 := h.d13, d23 := q3, f := (h.f.trans fg fun q hq e => by have := (hlt q e).1; omega).trans fs fun q hq e => by have := h.hb; omega, hb := h.hb }
theorem Sv.push3 {w0 w w5 : World} {vb : Nat} {V : Vm} (h : Sv w0 w vb V) {A' : Option Addr} {c' : Nat} {x : Lo} (o : w5.ownsRow w0.heap.size 92 3 (.slice A' (V.lamp.length + 1) c') (V.lamp.length + 1) (V.lamp.flatMap cLo ++ cLo x)) (g : w.grownBy w5 (blk V.A4)) (hn : blk A' = blk V.A4 ∨ blk A' = some w.heap.size) :
    Sv w0 (w5.setCell ⟨vb, 3, none⟩ (.slice A' (V.lamp.length + 1) c')) vb { V with A4 := A', c4 := c', lamp := V.lamp ++ [x] } := by
  have fg : Fr (fun q => blk V.A4 = some q) w w5 := (Fr.refl _ w).grown g fun _ hq => .inl hq
  have hlt := fun q (hq : blk V.A4 = some q) => World.ownsRow.lt h.o3 q (by rw [own_blk]; exact hq)
  have hvb : ¬ blk V.A4 = some vb := fun e => wide_is_ne h.o3 h.is (by decide) (by rw [own_blk]; exact e)
  have is5 : Is w5 vb 83 V.arr := h.is.fr fg hvb
  have fs : Fr (fun q => q = vb) w5 (w5.setCell ⟨vb, 3, none⟩ (.slice A' (V.lamp.length + 1) c')) := far 3 (.slice A' (V.lamp.length + 1) c') rfl
  have nv : ¬ blk A' = some vb := fun e => wide_is_ne o is5 (by decide) (by rw [own_blk]; exact e)
  have n0 : ∀ q, blk V.A1 = some q → ¬ blk V.A4 = some q := fun q hq e => h.d03 q hq e
  have l0 : ∀ q, blk V.A1 = some q → q < w.heap.size := fun q hq => (World.ownsRow.lt h.o0 q (by rw [own_blk]; exact hq)).2
  have p0 := wide_fr (wide_fr h.o0 fg fun q hq => n0 q (by rw [own_blk] at hq; exact hq)) fs fun q hq e => wide_is_ne h.o0 h.is (by decide) (by subst e; exact hq)
  have q0 : ∀ k, blk A' = some k → blk V.A1 ≠ some k := fun k e hq => by
    rcases hn with hn | hn
    · exact n0 k hq (hn ▸ e)
    · rw [hn] at e
      injection e with e
      have := l0 k hq
      omega
  have n1 : ∀ q, blk V.A2 = some q → ¬ blk V.A4 = some q := fun q hq e => h.d13 q hq e
  have l1 : ∀ q, blk V.A2 = some q → q < w.heap.size := fun q hq => (World.ownsRow.lt h.o1 q (by rw [own_blk]; exact hq)).2
  have p1 := wide_fr (wide_fr h.o1 fg fun q hq => n1 q (by rw [own_blk] at hq; exact hq)) fs fun q hq e => wide_is_ne h.o1 h.is (by decide) (by subst e; exact hq)
  have q1 : ∀ k, blk A' = some k → blk V.A2 ≠ some k := fun k e hq => by
    rcases hn with hn | hn
    · exact n1 k hq (hn ▸ e)
    · rw [hn] at e
      injection e with e
      have := l1 k hq
      omega
  have n2 : ∀ q, blk V.A3 = some q → ¬ blk V.A4 = some q := fun q hq e => h.d23 q hq e
  have l2 : ∀ q, blk V.A3 = some q → q < w.heap.size := fun q hq => (World.ownsRow.lt h.o2 q (by rw [own_blk]; exact hq)).2
  have p2 := wide_fr (wide_fr h.o2 fg fun q hq => n2 q (by rw [own_blk] at hq; exact hq)) fs fun q hq e => wide_is_ne h.o2 h.is (by decide) (by subst e; exact hq)
  have q2 : ∀ k, blk A' = some k → blk V.A3 ≠ some k := fun k e hq => by
    rcases hn with hn | hn
    · exact n2 k hq (hn ▸ e)
    · rw [hn] at e
      injection e with e
      have := l2 k hq
      omega
  have e1 : (V.lamp ++ [x]).length = V.lamp.length + 1 := by simp
  have i9 := is5.set 3 (.slice A' (V.lamp.length + 1) c')
  exact { is := (by unfold Vm.arr at i9 ⊢; simp only [e1]; exact i9), o0 := p0, o1 := p1, o2 := p2, o3 := (by have := wide_fr o fs fun q hq e => nv (by subst e; rw [own_blk] at hq; exact hq); simpa using this), d01 := h.d01, d02 := h.d02, d03 := fun k e hq => q0 k hq e, d12 := h.d12, d13 := fun k e hq => q1 k hq e, d23 := fun k e hq => q2 k hq e, f := (h.f.trans fg fun q hq e => by have := (hlt q e).1; omega).trans fs fun q hq e => by have := h.hb; omega, hb := h.hb }
theorem Sv.base {w0 w1 w : World} {vb : Nat} {V : Vm} (h : Sv w1 w vb V) (f : Fr (fun _ => False) w0 w1) : Sv w0 w vb V :=
  { h with o0 := own_base h.o0 f.size, o1 := own_base h.o1 f.size, o2 := own_base h.o2 f.size, o3 := own_base h.o3 f.size, f := fr_nil f h.f, hb := Nat.le_trans f.size h.hb }
theorem Sv.keep {w0 w w1 : World} {vb : Nat} {V : Vm} {S : Nat → Prop} (h : Sv w0 w vb V) (f : Fr S w w1) (hS : ∀ q, S q → q ≠ vb ∧ ¬ blk V.A1 = some q ∧ ¬ blk V.A2 = some q ∧ ¬ blk V.A3 = some q ∧ ¬ blk V.A4 = some q ∧ w0.heap.size ≤ q) : Sv w0 w1 vb V :=
  { h with is := h.is.fr f fun e => (hS _ e).1 rfl, o0 := wide_fr h.o0 f fun q hq e => (hS q e).2.1 (by rw [own_blk] at hq; exact hq), o1 := wide_fr h.o1 f fun q hq e => (hS q e).2.2.1 (by rw [own_blk] at hq; exact hq), o2 := wide_fr h.o2 f fun q hq e => (hS q e).2.2.2.1 (by rw [own_blk] at hq; exact hq), o3 := wide_fr h.o3 f fun q hq e => (hS q e).2.2.2.2.1 (by rw [own_blk] at hq; exact hq), f := h.f.trans f fun q hq e => by have := (hS q e).2.2.2.2.2; omega }
def lkM (v now : Int) : Lo := ⟨v, now, true⟩
/-- all seen well at a time -/
def seenM (c : Cf) (now : Int) : Vp := ⟨List.replicate c.secs.length (lkM 0 now), List.replicate c.secs.length (lkM 1 now), List.replicate c.crs.length (lkM 1 now), List.replicate c.sigs.length (lkM 1 now)⟩
theorem rep_snoc {α : Type} (n : Nat) (x : α) : List.replicate n x ++ [x] = List.replicate (n + 1) x := by rw [List.replicate_succ']
set_option maxRecDepth 100000 in
set_option maxHeartbeats 8000000 in
theorem seen_any {C : Cm} {w : World} (hC : C.Ok w) (now : Int) (hx : C.cr.length * 24 ≤ 140737488351232) (hg : C.sg.length * 24 ≤ 140737488351232) :
    Calls Tryz.prog 44 #[C.val, .int .i64 now] w fun e w' => ∃ V vb, e = .returned V.val ∧ V.vp = seenM C.cf now ∧ Sv w w' vb V := by
  have HB := Lib.hid (And.intro hC.b1 (And.intro hx hg))
  have h1 := (Is.new w 30 C.arr).alloc (.cells #[.slice none 0 0, .slice none 0 0, .slice none 0 0, .slice none 0 0] 83)
  have h2 := Is.new (w.alloc (.cells C.arr 30)) 83 #[.slice none 0 0, .slice none 0 0, .slice none 0 0, .slice none 0 0]
  have f1 := ((Fr.refl (fun _ => False) w).alloc (.cells C.arr 30)).alloc (.cells #[.slice none 0 0, .slice none 0 0, .slice none 0 0, .slice none 0 0] 83)
  simp only [World.size_alloc] at h2
  have HC := Lib.hid hC
  have HI1 := Lib.hid h1
  have HI2 := Lib.hid h2
  have HF1 := Lib.hid f1
  clear h1 h2 f1 hC hx hg
  unfold Cm.val Cm.arr at *
  go_enter Tryz.func44, Tryz.ntmps44
  go_upto_region 2 with fail
  generalize hwa : ((w.alloc _).alloc _) = wa at *
  have hza : wa.heap.size = w.heap.size + 1 + 1 := by rw [← hwa]; simp
  rw [← hza]
  have HZ := Lib.hid hza
  have hS0 : Sv wa (wa.alloc (.cells #[.slice none 0 0, .slice none 0 0, .slice none 0 0, .slice none 0 0] 83)) wa.heap.size ⟨none, 0, [], none, 0, [], none, 0, [], none, 0, []⟩ := by
    refine { is := Is.new wa _ _, o0 := World.ownsRow_nil _ _ _ 3, o1 := World.ownsRow_nil _ _ _ 3, o2 := World.ownsRow_nil _ _ _ 3, o3 := World.ownsRow_nil _ _ _ 3, f := (Fr.refl _ _).alloc _, hb := Nat.le_refl _, d01 := (fun k hk => by cases hk), d02 := (fun k hk => by cases hk), d03 := (fun k hk => by cases hk), d12 := (fun k hk => by cases hk), d13 := (fun k hk => by cases hk), d23 := (fun k hk => by cases hk) }
  have HS := Lib.hid hS0
  generalize hvb : wa.heap.size = vb at *
  clear hS0 hza hwa
  have HVB := Lib.hid hvb
  clear hvb
  have c0 : (wa.alloc (.cells #[.slice none 0 0, .slice none 0 0, .slice none 0 0, .slice none 0 0] 83)).cell? ⟨w.heap.size, 0, none⟩ = some (.slice C.A1 C.l.length C.c1) := (HI1.out.fr ((Fr.refl (fun _ => False) _).alloc _) id).cell 0
  go_wp2_with fail
  clear c0
  go_loopg [9] C.l.length (fun gi v9 wr => ∃ (j : Nat) (V : Vm), j ≤ C.l.length ∧ gi = C.l.length - j ∧ v9 = .int .i64 (j : Nat) ∧ Sv wa wr vb V ∧ V.occ = List.replicate (j) (lkM 0 now) ∧ V.pos = List.replicate (j) (lkM 1 now) ∧ V.shut = [] ∧ V.lamp = [])
  case atStart => exact ⟨0, _, Nat.zero_le _, rfl, rfl, HS.out, rfl, rfl, rfl, rfl⟩
  case round =>
    clear HS
    obtain ⟨j, V, hj, rfl, rfl, hS, e0, e1, e2, e3⟩ := hrel
    by_cases hlt : j < C.l.length
    · have HS := Lib.hid hS
      have HE := Lib.hid (And.intro e0 (And.intro e1 (And.intro e2 e3)))
      have HJ := Lib.hid hlt
      have HL0 : Hid (V.occ.length ≤ C.l.length) := Lib.hid (by rw [e0, List.length_replicate]; omega)
      have HL1 : Hid (V.pos.length ≤ C.l.length) := Lib.hid (by rw [e1, List.length_replicate]; omega)
      have HL2 : Hid (V.shut.length ≤ C.cr.length) := Lib.hid (by rw [e2]; simp; try omega)
      have HL3 : Hid (V.lamp.length ≤ C.sg.length) := Lib.hid (by rw [e3]; simp; try omega)
      have i1 : (0 : Int) ≤ (j : Int) := by omega
      have i2 : (j : Int) < (C.l.length : Int) := by omega
      have hbb := HB.out
      clear hS e0 e1 e2 e3 hlt hj
      go_upto_region 4 with fail
      obtain ⟨cq0, cq1, cq2, cq3⟩ := four HS.out.is
      obtain ⟨i0, hi0, hz0, hz1, hz2⟩ := info_parts Tryz.infoLk
      have hal := HS.out.o0.alloc (.cells #[.int .i64 0, .int .i64 now, .bool true] 92)
      have hfs := HS.out.f.size
      have hln : V.occ.length ≤ 5864062014634 := by have := HB.out; have hl := HL0.out; omega
      go_wp2_with (at_builtin; refine wpList_append_wide _ rfl (.tmp 12) (.tmp 15) 81 rfl wa.heap.size 92 i0 _ 3 24 Tryz.underlying81 hi0 hz0 hz1 hz2 rfl (by decide) (.slice V.A1 V.occ.length V.c1) V.occ.length (V.occ.flatMap cLo) rfl hal (some ⟨wr.heap.size, 0, none⟩) 1 1 [.int .i64 0, .int .i64 now, .bool true] rfl rfl (lit_rd wr _ _) (by simp [Value.oneCell']) (by unfold maxLen; omega) (by omega) (by have := (wr.size_alloc (.cells #[.int .i64 0, .int .i64 now, .bool true] 92)); omega) ?_)
      intro v5 w5 hown5 hg5 hb5
      obtain ⟨A5, c5', rfl, _, _, _, _⟩ := wide_form hown5
      rw [own_blk] at hg5
      rw [own_blk, own_blk] at hb5
      have hS := (HS.out.fr ((Fr.refl (fun _ => False) wr).alloc (.cells #[.int .i64 0, .int .i64 now, .bool true] 92))).push0 (x := ⟨0, now, true⟩) hown5 hg5 (by rw [World.size_alloc]; exact hb5)
      have HS1 := Lib.hid hS
      have hv5 := World.ownsRow.lt hown5
      have isx := (HS.out.fr ((Fr.refl (fun _ => False) wr).alloc (.cells #[.int .i64 0, .int .i64 now, .bool true] 92))).is.fr ((Fr.refl (fun q => blk V.A1 = some q) _).grown hg5 fun _ hq => .inl hq) (fun e => wide_is_ne HS.out.o0 HS.out.is (by decide) (by rw [own_blk]; exact e))
      have zx := isx.frozen 0
      have cx := isx.cell 0
      clear hown5 hg5 hb5 hal hS hi0 hz0 hz1 hz2 hv5 isx cq0 cq1 cq2 cq3
      go_upto_region 5 with fail
      generalize w5.setCell _ _ = w6 at *
      obtain ⟨V1, hV1⟩ : ∃ V1, V1 = ({ V with A1 := A5, c1 := c5', occ := V.occ ++ [(⟨0, now, true⟩ : Lo)] } : Vm) := ⟨_, rfl⟩
      rw [← hV1] at HS1
      have g0 : V1.occ = V.occ ++ [(⟨0, now, true⟩ : Lo)] := by rw [hV1]
      have g1 : V1.pos = V.pos := by rw [hV1]
      have g2 : V1.shut = V.shut := by rw [hV1]
      have g3 : V1.lamp = V.lamp := by rw [hV1]
      have HM1 : Hid (V1.pos.length ≤ C.l.length) := Lib.hid (by rw [g1]; exact HL1.out)
      have HG := Lib.hid (And.intro g0 (And.intro g1 (And.intro g2 g3)))
      clear hV1 g0 g1 g2 g3 zx cx hfs hln
      obtain ⟨cq0, cq1, cq2, cq3⟩ := four HS1.out.is
      obtain ⟨i0, hi0, hz0, hz1, hz2⟩ := info_parts Tryz.infoLk
      have hal := HS1.out.o1.alloc (.cells #[.int .i64 1, .int .i64 now, .bool true] 92)
      have hfs := HS1.out.f.size
      have hln : V1.pos.length ≤ 5864062014634 := by have := HB.out; have hl := HM1.out; omega
      go_wp2_with (at_builtin; refine wpList_append_wide _ rfl (.tmp 19) (.tmp 22) 81 rfl wa.heap.size 92 i0 _ 3 24 Tryz.underlying81 hi0 hz0 hz1 hz2 rfl (by decide) (.slice V1.A2 V1.pos.length V1.c2) V1.pos.length (V1.pos.flatMap cLo) rfl hal (some ⟨w6.heap.size, 0, none⟩) 1 1 [.int .i64 1, .int .i64 now, .bool true] rfl rfl (lit_rd w6 _ _) (by simp [Value.oneCell']) (by unfold maxLen; omega) (by omega) (by have := (w6.size_alloc (.cells #[.int .i64 1, .int .i64 now, .bool true] 92)); omega) ?_)
      intro v7 w7 hown5 hg5 hb5
      obtain ⟨A7, c7', rfl, _, _, _, _⟩ := wide_form hown5
      rw [own_blk] at hg5
      rw [own_blk, own_blk] at hb5
      have hS := (HS1.out.fr ((Fr.refl (fun _ => False) w6).alloc (.cells #[.int .i64 1, .int .i64 now, .bool true] 92))).push1 (x := ⟨1, now, true⟩) hown5 hg5 (by rw [World.size_alloc]; exact hb5)
      have HS2 := Lib.hid hS
      have hv5 := World.ownsRow.lt hown5
      have isx := (HS1.out.fr ((Fr.refl (fun _ => False) w6).alloc (.cells #[.int .i64 1, .int .i64 now, .bool true] 92))).is.fr ((Fr.refl (fun q => blk V1.A2 = some q) _).grown hg5 fun _ hq => .inl hq) (fun e => wide_is_ne HS1.out.o1 HS1.out.is (by decide) (by rw [own_blk]; exact e))
      have zx := isx.frozen 1
      have cx := isx.cell 1
      clear hown5 hg5 hb5 hal hS hi0 hz0 hz1 hz2 hv5 isx cq0 cq1 cq2 cq3
      have hbb := HB.out
      go_wp2_with fail
      go_roundg (C.l.length - (j + 1))
      case measure => have := HJ.out; omega
      case rel =>
        obtain ⟨e0, e1, e2, e3⟩ := HE.out
        obtain ⟨g0, g1, g2, g3⟩ := HG.out
        exact ⟨j + 1, _, HJ.out, rfl, by go_num, HS2.out, by show V1.occ = _; rw [g0, e0]; exact rep_snoc _ _, by show V1.pos ++ [_] = _; rw [g1, e1]; exact rep_snoc _ _, by show V1.shut = _; rw [g2, e2], by show V1.lamp = _; rw [g3, e3]⟩
    · have hje : C.l.length = j := by omega
      subst hje
      have HS := Lib.hid hS
      have HE := Lib.hid (And.intro e0 (And.intro e1 (And.intro e2 e3)))
      have c9 : wr.cell? ⟨w.heap.size, 3, none⟩ = some (.slice C.A4 C.cr.length C.c4) := (HI1.out.fr HS.out.f id).cell 3
      clear hS e0 e1 e2 e3 hlt hj
      go_wp2_with fail
      clear c9
      go_loopg [29] C.cr.length (fun gi v9 wr => ∃ (j : Nat) (V : Vm), j ≤ C.cr.length ∧ gi = C.cr.length - j ∧ v9 = .int .i64 (j : Nat) ∧ Sv wa wr vb V ∧ V.occ = List.replicate (C.l.length) (lkM 0 now) ∧ V.pos = List.replicate (C.l.length) (lkM 1 now) ∧ V.shut = List.replicate (j) (lkM 1 now) ∧ V.lamp = [])
      case atStart =>
        obtain ⟨e0, e1, e2, e3⟩ := HE.out
        exact ⟨0, _, Nat.zero_le _, rfl, rfl, HS.out, e0, e1, e2, e3⟩
      case round =>
        clear HS HE
        obtain ⟨j, V, hj, rfl, rfl, hS, e0, e1, e2, e3⟩ := hrel
        by_cases hlt : j < C.cr.length
        · have HS := Lib.hid hS
          have HE := Lib.hid (And.intro e0 (And.intro e1 (And.intro e2 e3)))
          have HJ := Lib.hid hlt
          have HL0 : Hid (V.occ.length ≤ C.l.length) := Lib.hid (by rw [e0, List.length_replicate]; omega)
          have HL1 : Hid (V.pos.length ≤ C.l.length) := Lib.hid (by rw [e1, List.length_replicate]; omega)
          have HL2 : Hid (V.shut.length ≤ C.cr.length) := Lib.hid (by rw [e2]; simp; try omega)
          have HL3 : Hid (V.lamp.length ≤ C.sg.length) := Lib.hid (by rw [e3]; simp; try omega)
          have i1 : (0 : Int) ≤ (j : Int) := by omega
          have i2 : (j : Int) < (C.cr.length : Int) := by omega
          have hbb := HB.out
          clear hS e0 e1 e2 e3 hlt hj
          go_upto_region 9 with fail
          obtain ⟨cq0, cq1, cq2, cq3⟩ := four HS.out.is
          obtain ⟨i0, hi0, hz0, hz1, hz2⟩ := info_parts Tryz.infoLk
          have hal := HS.out.o2.alloc (.cells #[.int .i64 1, .int .i64 now, .bool true] 92)
          have hfs := HS.out.f.size
          have hln : V.shut.length ≤ 5864062014634 := by have := HB.out; have hl := HL2.out; omega
          go_wp2_with (at_builtin; refine wpList_append_wide _ rfl (.tmp 32) (.tmp 35) 81 rfl wa.heap.size 92 i0 _ 3 24 Tryz.underlying81 hi0 hz0 hz1 hz2 rfl (by decide) (.slice V.A3 V.shut.length V.c3) V.shut.length (V.shut.flatMap cLo) rfl hal (some ⟨wr.heap.size, 0, none⟩) 1 1 [.int .i64 1, .int .i64 now, .bool true] rfl rfl (lit_rd wr _ _) (by simp [Value.oneCell']) (by unfold maxLen; omega) (by omega) (by have := (wr.size_alloc (.cells #[.int .i64 1, .int .i64 now, .bool true] 92)); omega) ?_)
          intro v5 w5 hown5 hg5 hb5
          obtain ⟨A5, c5', rfl, _, _, _, _⟩ := wide_form hown5
          rw [own_blk] at hg5
          rw [own_blk, own_blk] at hb5
          have hS := (HS.out.fr ((Fr.refl (fun _ => False) wr).alloc (.cells #[.int .i64 1, .int .i64 now, .bool true] 92))).push2 (x := ⟨1, now, true⟩) hown5 hg5 (by rw [World.size_alloc]; exact hb5)
          have HS1 := Lib.hid hS
          have hv5 := World.ownsRow.lt hown5
          have isx := (HS.out.fr ((Fr.refl (fun _ => False) wr).alloc (.cells #[.int .i64 1, .int .i64 now, .bool true] 92))).is.fr ((Fr.refl (fun q => blk V.A3 = some q) _).grown hg5 fun _ hq => .inl hq) (fun e => wide_is_ne HS.out.o2 HS.out.is (by decide) (by rw [own_blk]; exact e))
          have zx := isx.frozen 2
          have cx := isx.cell 2
          clear hown5 hg5 hb5 hal hS hi0 hz0 hz1 hz2 hv5 isx cq0 cq1 cq2 cq3
          have hbb := HB.out
          go_wp2_with fail
          go_roundg (C.cr.length - (j + 1))
          case measure => have := HJ.out; omega
          case rel =>
            obtain ⟨e0, e1, e2, e3⟩ := HE.out
            exact ⟨j + 1, _, HJ.out, rfl, by go_num, HS1.out, by show V.occ = _; rw [e0], by show V.pos = _; rw [e1], by show V.shut ++ [_] = _; rw [e2]; exact rep_snoc _ _, by show V.lamp = _; rw [e3]⟩
        · have hje : C.cr.length = j := by omega
          subst hje
          have HS := Lib.hid hS
          have HE := Lib.hid (And.intro e0 (And.intro e1 (And.intro e2 e3)))
          have c9 : wr.cell? ⟨w.heap.size, 2, none⟩ = some (.slice C.A3 C.sg.length C.c3) := (HI1.out.fr HS.out.f id).cell 2
          clear hS e0 e1 e2 e3 hlt hj
          go_wp2_with fail
          clear c9
          go_loopg [42] C.sg.length (fun gi v9 wr => ∃ (j : Nat) (V : Vm), j ≤ C.sg.length ∧ gi = C.sg.length - j ∧ v9 = .int .i64 (j : Nat) ∧ Sv wa wr vb V ∧ V.occ = List.replicate (C.l.length) (lkM 0 now) ∧ V.pos = List.replicate (C.l.length) (lkM 1 now) ∧ V.shut = List.replicate (C.cr.length) (lkM 1 now) ∧ V.lamp = List.replicate (j) (lkM 1 now))
          case atStart =>
            obtain ⟨e0, e1, e2, e3⟩ := HE.out
            exact ⟨0, _, Nat.zero_le _, rfl, rfl, HS.out, e0, e1, e2, e3⟩
          case round =>
            clear HS HE
            obtain ⟨j, V, hj, rfl, rfl, hS, e0, e1, e2, e3⟩ := hrel
            by_cases hlt : j < C.sg.length
            · have HS := Lib.hid hS
              have HE := Lib.hid (And.intro e0 (And.intro e1 (And.intro e2 e3)))
              have HJ := Lib.hid hlt
              have HL0 : Hid (V.occ.length ≤ C.l.length) := Lib.hid (by rw [e0, List.length_replicate]; omega)
              have HL1 : Hid (V.pos.length ≤ C.l.length) := Lib.hid (by rw [e1, List.length_replicate]; omega)
              have HL2 : Hid (V.shut.length ≤ C.cr.length) := Lib.hid (by rw [e2]; simp; try omega)
              have HL3 : Hid (V.lamp.length ≤ C.sg.length) := Lib.hid (by rw [e3]; simp; try omega)
              have i1 : (0 : Int) ≤ (j : Int) := by omega
              have i2 : (j : Int) < (C.sg.length : Int) := by omega
              have hbb := HB.out
              clear hS e0 e1 e2 e3 hlt hj
              go_upto_region 13 with fail
              obtain ⟨cq0, cq1, cq2, cq3⟩ := four HS.out.is
              obtain ⟨i0, hi0, hz0, hz1, hz2⟩ := info_parts Tryz.infoLk
              have hal := HS.out.o3.alloc (.cells #[.int .i64 1, .int .i64 now, .bool true] 92)
              have hfs := HS.out.f.size
              have hln : V.lamp.length ≤ 5864062014634 := by have := HB.out; have hl := HL3.out; omega
              go_wp2_with (at_builtin; refine wpList_append_wide _ rfl (.tmp 45) (.tmp 48) 81 rfl wa.heap.size 92 i0 _ 3 24 Tryz.underlying81 hi0 hz0 hz1 hz2 rfl (by decide) (.slice V.A4 V.lamp.length V.c4) V.lamp.length (V.lamp.flatMap cLo) rfl hal (some ⟨wr.heap.size, 0, none⟩) 1 1 [.int .i64 1, .int .i64 now, .bool true] rfl rfl (lit_rd wr _ _) (by simp [Value.oneCell']) (by unfold maxLen; omega) (by omega) (by have := (wr.size_alloc (.cells #[.int .i64 1, .int .i64 now, .bool true] 92)); omega) ?_)
              intro v5 w5 hown5 hg5 hb5
              obtain ⟨A5, c5', rfl, _, _, _, _⟩ := wide_form hown5
              rw [own_blk] at hg5
              rw [own_blk, own_blk] at hb5
              have hS := (HS.out.fr ((Fr.refl (fun _ => False) wr).alloc (.cells #[.int .i64 1, .int .i64 now, .bool true] 92))).push3 (x := ⟨1, now, true⟩) hown5 hg5 (by rw [World.size_alloc]; exact hb5)
              have HS1 := Lib.hid hS
              have hv5 := World.ownsRow.lt hown5
              have isx := (HS.out.fr ((Fr.refl (fun _ => False) wr).alloc (.cells #[.int .i64 1, .int .i64 now, .bool true] 92))).is.fr ((Fr.refl (fun q => blk V.A4 = some q) _).grown hg5 fun _ hq => .inl hq) (fun e => wide_is_ne HS.out.o3 HS.out.is (by decide) (by rw [own_blk]; exact e))
              have zx := isx.frozen 3
              have cx := isx.cell 3
              clear hown5 hg5 hb5 hal hS hi0 hz0 hz1 hz2 hv5 isx cq0 cq1 cq2 cq3
              have hbb := HB.out
              go_wp2_with fail
              go_roundg (C.sg.length - (j + 1))
              case measure => have := HJ.out; omega
              case rel =>
                obtain ⟨e0, e1, e2, e3⟩ := HE.out
                exact ⟨j + 1, _, HJ.out, rfl, by go_num, HS1.out, by show V.occ = _; rw [e0], by show V.pos = _; rw [e1], by show V.shut = _; rw [e2], by show V.lamp ++ [_] = _; rw [e3]; exact rep_snoc _ _⟩
            · have hje : C.sg.length = j := by omega
              subst hje
              have HS := Lib.hid hS
              have HE := Lib.hid (And.intro e0 (And.intro e1 (And.intro e2 e3)))
              clear hS e0 e1 e2 e3 hlt hj
              obtain ⟨cq0, cq1, cq2, cq3⟩ := four HS.out.is
              have isr := HI2.out.fr HS.out.f id
              obtain ⟨m0, m1, m2, m3⟩ := four isr
              have z0 := isr.frozen 0
              have z1 := isr.frozen 1
              have z2 := isr.frozen 2
              have z3 := isr.frozen 3
              have isR := ((((isr.set 0 (.slice V.A1 V.occ.length V.c1)).set 1 (.slice V.A2 V.pos.length V.c2)).set 2 (.slice V.A3 V.shut.length V.c3)).set 3 (.slice V.A4 V.lamp.length V.c4))
              have fR := (((((Fr.refl (fun q => q = w.heap.size + 1) wr).setCell (p := ⟨w.heap.size + 1, 0, none⟩) (.inl rfl) (.slice V.A1 V.occ.length V.c1)).setCell (p := ⟨w.heap.size + 1, 1, none⟩) (.inl rfl) (.slice V.A2 V.pos.length V.c2)).setCell (p := ⟨w.heap.size + 1, 2, none⟩) (.inl rfl) (.slice V.A3 V.shut.length V.c3)).setCell (p := ⟨w.heap.size + 1, 3, none⟩) (.inl rfl) (.slice V.A4 V.lamp.length V.c4))
              simp only [List.setIfInBounds_toArray, List.set_cons_zero, List.set_cons_succ] at isR
              have HR := Lib.hid isR
              have HFR := Lib.hid fR
              have HIS := Lib.hid isr
              clear isR fR isr
              go_wp2_with fail
              have isR := HR.out
              have fR := HFR.out
              have hb := HS.out.base HF1.out
              have hsv := hb.keep fR (fun q e => by
                subst e
                exact ⟨fun e => by have := HZ.out; have := HVB.out; omega, fun e => wide_is_ne hb.o0 HIS.out (by decide) (by rw [own_blk]; exact e), fun e => wide_is_ne hb.o1 HIS.out (by decide) (by rw [own_blk]; exact e), fun e => wide_is_ne hb.o2 HIS.out (by decide) (by rw [own_blk]; exact e), fun e => wide_is_ne hb.o3 HIS.out (by decide) (by rw [own_blk]; exact e), by omega⟩)
              obtain ⟨d0, d1, d2, d3⟩ := four isR
              refine bodyPost_ret (v := V.val) ?_ rfl ⟨V, vb, rfl, ?_, hsv⟩
              · unfold Vm.val Vm.arr
                simp [results, Tryz.results44, go_sem, d0, d1, d2, d3]
              · obtain ⟨e0, e1, e2, e3⟩ := HE.out
                unfold Vm.vp seenM
                rw [e0, e1, e2, e3]
                rfl
end Go.Proofs.YtginfnbdnkgjbaaGreat.Nk
/- Plain: the chapter's example 1, step by step. -/
namespace Go.Proofs.YtginfnbdnkgjbaaGreat.Nk
open Go.RowKit Lk

theorem station14_ex (w : World) : Calls Tryz.prog 93 #[] w fun e w' => ∃ C : Cm, e = .returned C.val ∧ C.cf = smF ∧ C.Ok w' ∧ Fr (fun _ => False) w w' :=
  (station14_any w).mono fun _ _ ⟨he, hw⟩ => ⟨_, he, smC_cf _, hw ▸ smW_ok w, hw ▸ smW_fr w⟩
/-- behind the request -/
def exR (d : Bool) : Kp := ⟨[0, 1, 1, 0, 0], [⟨1, 0, 0, 0⟩, ⟨0, 0, 0, 0⟩], [⟨0, 0⟩, ⟨1, 5⟩, ⟨0, 0⟩, ⟨0, 0⟩, ⟨0, 0⟩], [], List.replicate 4 default, [0, 0, 0, 0, 0], d⟩
theorem ex_req : gateM smF (openM smF) (tmB 5) (reqM smF (openM smF) 5 0) = (exR true, 0) := by
  unfold reqM reqE reqK
  rw [sm_locks]
  kernel_rfl
/-- behind the cycle: the signal is cleared -/
def exO (st : Int) : Kp := ⟨[0, 1, 1, 0, 0], [⟨st, 0, 0, 0⟩, ⟨0, 0, 0, 0⟩], [⟨0, 0⟩, ⟨1, 5⟩, ⟨0, 0⟩, ⟨0, 0⟩, ⟨0, 0⟩], [], List.replicate 4 default, [0, 0, 0, 0, 0], false⟩
theorem ex_step8 : stepM smF (seenM smF 8) 8 (exR false) = (exO 2, [2, 0], 0) := by kernel_rfl
theorem ex_step7 : stepM smF (seenM smF 7) 8 (exR false) = (exO 1, [0, 0], 0) := by kernel_rfl
theorem ex_fit : FitP smF (openM smF) := open_fit sm_check
theorem ex_fitR : FitP smF (exR false) := fits_iff.1 (by kernel_rfl)
end Go.Proofs.YtginfnbdnkgjbaaGreat.Nk

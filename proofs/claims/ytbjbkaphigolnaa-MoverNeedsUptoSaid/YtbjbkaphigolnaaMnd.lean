/- The contracts of package mover's has, asked, Needs. -/
import Derived.Test.YtbjbkaphigolnaaMv
import Derived.Test.YtbjbkaphigolnaaKc
import Derived.Deep.CutRange
import Derived.Deep.LoopGhost
namespace Go.Proofs.Ytbjbkaphigolnaa.Mv
open Go.RowKit

theorem Try.infoNd : (Try.prog.info? 45).map (fun i => (i.zero, i.size, i.bytes)) = some (some (.agg #[.int .i64 0, .int .i64 0]), 2, 16) := by kernel_rfl
/-- the position that a step asks for -/
def ask (l : List Sec) (s : St) : Option Nd :=
  if 0 ≤ s.sec then (match l[s.sec.toNat]? with | none => none | some k => if (posOk k.kind s.inn s.out && posOut k.kind s.inn s.out != 0) = true then some ⟨s.sec, posOut k.kind s.inn s.out⟩ else none) else none
theorem ask_neg {l : List Sec} {s : St} (h : ¬ 0 ≤ s.sec) : ask l s = none := by unfold ask; rw [if_neg h]
theorem ask_far {l : List Sec} {s : St} (h : 0 ≤ s.sec) (h2 : ¬ s.sec < l.length) : ask l s = none := by
  unfold ask
  rw [if_pos h, List.getElem?_eq_none (by omega)]
theorem ask_at {l : List Sec} {s : St} {j : Nat} (hj : s.sec = (j : Int)) (h : j < l.length) : ask l s = if (posOk l[j].kind s.inn s.out && posOut l[j].kind s.inn s.out != 0) = true then some ⟨s.sec, posOut l[j].kind s.inn s.out⟩ else none := by
  unfold ask
  rw [if_pos (by omega), show s.sec.toNat = j by omega, List.getElem?_eq_getElem h]
/-- what a route needs -/
def needs (C : Cm) (r : Int) : List Nd := if 0 ≤ r then (match C.rs[r.toNat]? with | none => [] | some q => q.path.filterMap (ask C.l) ++ q.flank) else []
theorem needs_neg {C : Cm} {r : Int} (h : ¬ 0 ≤ r) : needs C r = [] := by unfold needs; rw [if_neg h]
theorem needs_far {C : Cm} {r : Int} (h : 0 ≤ r) (h2 : ¬ r < C.rs.length) : needs C r = [] := by
  unfold needs
  rw [if_pos h, List.getElem?_eq_none (by omega)]
theorem needs_at {C : Cm} {j : Nat} (h : j < C.rs.length) : needs C (j : Int) = C.rs[j].path.filterMap (ask C.l) ++ C.rs[j].flank := by
  unfold needs
  rw [if_pos (by omega), show ((j : Int)).toNat = j by omega, List.getElem?_eq_getElem h]

theorem hasr_any (A : Option Addr) (n c : Nat) (r : Int) (w : World) : Calls Try.prog 22 #[.slice A n c, .int .i64 r] w fun e w' => e = .returned (.bool (decide (0 ≤ r) && decide (r < n))) ∧ w = w' := by
  by_cases h : 0 ≤ r
  · have d : decide (0 ≤ r) = true := decide_eq_true h
    rw [d]
    go_enter Try.func22, Try.ntmps22
    go_wp2
    go_ret
    exact ⟨rfl, rfl⟩
  · have d : decide (0 ≤ r) = false := decide_eq_false h
    rw [d]
    go_enter Try.func22, Try.ntmps22
    go_wp2
    go_ret
    exact ⟨rfl, rfl⟩
theorem hass_any (A : Option Addr) (n c : Nat) (r : Int) (w : World) : Calls Try.prog 26 #[.slice A n c, .int .i64 r] w fun e w' => e = .returned (.bool (decide (0 ≤ r) && decide (r < n))) ∧ w = w' := by
  by_cases h : 0 ≤ r
  · have d : decide (0 ≤ r) = true := decide_eq_true h
    rw [d]
    go_enter Try.func26, Try.ntmps26
    go_wp2
    go_ret
    exact ⟨rfl, rfl⟩
  · have d : decide (0 ≤ r) = false := decide_eq_false h
    rw [d]
    go_enter Try.func26, Try.ntmps26
    go_wp2
    go_ret
    exact ⟨rfl, rfl⟩

/-- what asked answers -/
def Asked (l : List Sec) (s : St) (w : World) (e : Ending) (w' : World) : Prop := ∃ (x : Int) (b : Bool), e = .returned (.tuple #[.int .i64 x, .bool b]) ∧ Fr (fun _ => False) w w' ∧ ask l s = if b = true then some ⟨s.sec, x⟩ else none
set_option maxHeartbeats 4000000 in
theorem asked_any {A : Option Addr} {c : Nat} {l : List Sec} (s : St) (w : World) (h : Rd w A (cellsS l)) :
    Calls Try.prog 23 #[.slice A l.length c, .agg #[.int .i64 s.sec, .int .i64 s.inn, .int .i64 s.out]] w (Asked l s w) := by
  have KH := hass_any A l.length c s.sec
  have f0 := (Fr.refl (fun _ => False) w).alloc (.cells #[.int .i64 s.sec, .int .i64 s.inn, .int .i64 s.out] 65)
  have ib := Is.new w 65 #[.int .i64 s.sec, .int .i64 s.inn, .int .i64 s.out]
  have b0 := ib.cell 0
  by_cases h0 : 0 ≤ s.sec
  · by_cases h1 : s.sec < l.length
    · rw [decide_eq_true h0, decide_eq_true h1] at KH
      obtain ⟨j, hj⟩ : ∃ j : Nat, s.sec = (j : Int) := ⟨s.sec.toNat, by omega⟩
      have hjl : j < l.length := by omega
      have HASK := Lib.hid (ask_at hj hjl)
      have hS := h.fr f0 fun _ _ => id
      obtain ⟨g, o, rfl, s0, s1, s2⟩ := rd_sec hS hjl
      have KP := pos_any l[j].kind s.inn s.out
      generalize l[j].kind = kd at *
      obtain ⟨ss, si, so⟩ := s
      simp only at *
      subst hj
      clear h h0 h1 s1 s2 hS
      go_enter Try.func23, Try.ntmps23
      go_wp2_with fail
      refine (KH _).mono ?_
      clear KH
      rintro e w1 ⟨rfl, rfl⟩
      have HF0 := Lib.hid f0
      clear f0 b0
      go_wp2_with fail
      generalize w.alloc _ = w1 at *
      generalize w.heap.size = b at *
      have x0 : ∀ u : Fro w1, u.w.cell? ⟨b, 0, none⟩ = some (.int .i64 (j : Nat)) := cell_fro (ib.cell 0)
      have x1 : ∀ u : Fro w1, u.w.cell? ⟨b, 1, none⟩ = some (.int .i64 si) := cell_fro (ib.cell 1)
      have x2 : ∀ u : Fro w1, u.w.cell? ⟨b, 2, none⟩ = some (.int .i64 so) := cell_fro (ib.cell 2)
      have y0 : ∀ u : Fro w1, u.w.cell? ⟨g, o + j * 3, none⟩ = some (.int .i64 kd) := cell_fro s0
      clear s0 ib
      refine region_fro (by kernel_rfl) (by kernel_rfl) ?_
      repeat (go_big_quiet_step ((go_at_call 27; with_reducible exact call_fro (KP _))))
      refine wpQuiet_nil ?_
      rintro _ ⟨⟨w6, f6⟩, rfl⟩
      have HF := Lib.hid (fr_nil HF0.out f6)
      clear x0 x1 x2 y0 KP f6 HF0
      cases hk : posOk kd si so
      · have HP : Hid (ask l ⟨(j : Int), si, so⟩ = none) := Lib.hid (by rw [HASK.out, hk]; rfl)
        clear HASK hk
        go_wp2_with fail
        go_ret2
        exact ⟨_, _, rfl, HF.out, HP.out⟩
      · generalize posOut kd si so = x at *
        have HP : Hid (ask l ⟨(j : Int), si, so⟩ = if (x != 0) = true then some ⟨(j : Int), x⟩ else none) := Lib.hid (by rw [HASK.out, hk]; rfl)
        clear HASK hk
        go_wp2_with fail
        go_ret2
        exact ⟨_, _, rfl, HF.out, HP.out⟩
    · rw [decide_eq_true h0, decide_eq_false h1] at KH
      have HASK := Lib.hid (ask_far h0 h1)
      have HF0 := Lib.hid f0
      clear h0 h1 f0
      go_enter Try.func23, Try.ntmps23
      go_wp2_with fail
      refine (KH _).mono ?_
      clear KH
      rintro e w1 ⟨rfl, rfl⟩
      go_wp2_with fail
      go_ret2
      exact ⟨_, _, rfl, HF0.out, HASK.out⟩
  · rw [decide_eq_false h0] at KH
    have HASK := Lib.hid (ask_neg (l := l) h0)
    have HF0 := Lib.hid f0
    clear h0 f0
    go_enter Try.func23, Try.ntmps23
    go_wp2_with fail
    refine (KH _).mono ?_
    clear KH
    rintro e w1 ⟨rfl, rfl⟩
    go_wp2_with fail
    go_ret2
    exact ⟨_, _, rfl, HF0.out, HASK.out⟩

/-- a row of needs of the call's own -/
def Nds (w0 : Nat) (l : List Nd) (w : World) (v : Value) : Prop := ∃ A c, v = .slice A l.length c ∧ w.ownsRow w0 45 2 (.slice A l.length c) l.length (cellsN l)
theorem Nds.nil (w0 : Nat) (w : World) : Nds w0 [] w (.slice none 0 0) := ⟨none, 0, rfl, World.ownsRow_nil w w0 _ 2⟩
theorem Nds.fr {w0 : Nat} {l : List Nd} {w w1 : World} {v : Value} (h : Nds w0 l w v) (f : Fr (fun _ => False) w w1) : Nds w0 l w1 v := by
  obtain ⟨A, c, rfl, o⟩ := h
  exact ⟨A, c, rfl, wide_fr o f fun _ _ => id⟩
/-- the routes are not too long -/
def Slim (C : Cm) : Prop := ∀ r ∈ C.rs, r.path.length ≤ 1048576 ∧ r.flank.length ≤ 1048576
theorem filterMap_snoc {α β : Type} (f : α → Option β) (l : List α) (k : Nat) (h : k < l.length) : (l.take (k + 1)).filterMap f = (l.take k).filterMap f ++ (match f l[k] with | none => [] | some b => [b]) := by
  rw [List.take_succ_eq_append_getElem h, List.filterMap_append]
  cases hf : f l[k] <;> simp [hf]
theorem filterMap_le {α β : Type} (f : α → Option β) (l : List α) (k : Nat) : ((l.take k).filterMap f).length ≤ k := by
  have := List.length_filterMap_le f (l.take k)
  have := List.length_take_le k l
  omega

theorem cellsN_append (a b : List Nd) : cellsN (a ++ b) = cellsN a ++ cellsN b := by
  unfold cellsN
  rw [List.flatMap_append]
theorem cellsN_one (l : List Nd) : ∀ u ∈ cellsN l, u.oneCell' = true := by
  intro u hu
  obtain ⟨s, _, hs⟩ := List.mem_flatMap.1 hu
  simp at hs
  rcases hs with rfl | rfl <;> rfl
def NdsE (w0 : Nat) (l : List Nd) (w : World) (e : Ending) (w' : World) : Prop := ∃ v, e = .returned v ∧ Nds w0 l w' v ∧ Fr (fun _ => False) w w'
set_option maxHeartbeats 8000000 in
set_option maxRecDepth 100000 in
theorem needs_any {C : Cm} (r : Int) (w : World) (hC : C.Ok w) (hs : Slim C) : Calls Try.prog 13 #[C.val, .int .i64 r] w (NdsE w.heap.size (needs C r) w) := by
  have KH := hasr_any C.A5 C.rs.length C.c5 r
  have f0 := (Fr.refl (fun _ => False) w).alloc (.cells C.arr 40)
  have ib := Is.new w 40 C.arr
  unfold Cm.val
  unfold Cm.arr at *
  by_cases h0 : 0 ≤ r
  · by_cases h1 : r < C.rs.length
    · rw [decide_eq_true h0, decide_eq_true h1] at KH
      obtain ⟨j, hj⟩ : ∃ j : Nat, r = (j : Int) := ⟨r.toNat, by omega⟩
      subst hj
      have hjl : j < C.rs.length := by omega
      have hN := Lib.hid (needs_at (C := C) hjl)
      have hr := hC.each _ (List.getElem_mem hjl)
      obtain ⟨hp20, hf20⟩ := hs _ (List.getElem_mem hjl)
      obtain ⟨g, o, e5, _, _, s2, s3, _, _⟩ := rd_ro hC.rts hjl
      have hl5 := hC.l5
      have hk5 := hC.k5
      generalize C.rs[j] = q at *
      have KA := fun s W (f : Fr (fun _ => False) w W) => asked_any (c := C.c1) s W (hC.secs.fr f fun _ _ => id)
      obtain ⟨A1, c1, l, A2, c2, js, A3, c3, sg, A4, c4, cr, A5, c5, rs, tm⟩ := C
      simp only at *
      subst e5
      have HK := Lib.hid KA
      generalize needs _ (j : Int) = T at *
      have hp := hr.path
      have hfk := hr.flank
      have hl1 := hr.l1
      have hl2 := hr.l2
      have hk1 := hr.k1
      have hk2 := hr.k2
      have HF0 := Lib.hid f0
      have HG : Hid (g < w.heap.size) := Lib.hid (World.block_lt_of_cell? _ _ s3)
      have HS2 := Lib.hid s2
      have HS3 := Lib.hid s3
      have HIB := Lib.hid ib
      clear hC hs KA h0 h1 hr
      obtain ⟨en, ex, a1, q1, path, a2, q2, flank, a3, q3, over, sh⟩ := q
      simp only at *
      have b4 := ib.cell 4
      have x2 := (f0.cell (p := ⟨g, o + j * 6 + 2, none⟩) HG.out id).trans s2
      clear ib f0 s2 s3
      go_enter Try.func13, Try.ntmps13
      go_wp2_with fail
      refine (KH _).mono ?_
      clear KH
      rintro e w1 ⟨rfl, rfl⟩
      go_wp2_with fail
      generalize w.alloc _ = w1 at *
      generalize hzb : w.heap.size = zb at *
      have HZ := Lib.hid hzb
      clear hzb b4 x2
      go_loopg [5, 22] path.length (fun gh v5 i wr => ∃ k : Nat, k ≤ path.length ∧ gh = path.length - k ∧ i = .int .i64 (k : Nat) ∧ Nds zb ((path.take k).filterMap (ask l)) wr v5 ∧ Fr (fun _ => False) w wr ∧ Is wr zb 40 #[.slice A1 l.length c1, .slice A2 js.length c2, .slice A3 sg.length c3, .slice A4 cr.length c4, .slice (some ⟨g, o, none⟩) rs.length c5, .int .i64 tm.age, .int .i64 tm.brake, .int .i64 tm.hold, .int .i64 tm.budget])
      case atStart => exact ⟨0, Nat.zero_le _, rfl, rfl, Nds.nil _ _, HF0.out, HIB.out⟩
      case round =>
        clear HF0 HIB
        obtain ⟨k, hk, rfl, rfl, ⟨A, c, rfl, hown⟩, f, ib⟩ := hrel
        by_cases hlt : k < path.length
        · obtain ⟨gp, op, ea, p0, p1, p2⟩ := rd_st (hp.fr f fun _ _ => id) hlt
          subst ea
          have hsn := filterMap_snoc (ask l) path k hlt
          have hle := filterMap_le (ask l) path k
          generalize path[k] = s at *
          obtain ⟨ss, si, so⟩ := s
          simp only at p0 p1 p2
          have fa := (Fr.refl (fun _ => False) wr).alloc (.cells #[.int .i64 ss, .int .i64 si, .int .i64 so] 65)
          have b0 := (ib.fr fa id).cell 0
          have ia := Is.new wr 65 #[.int .i64 ss, .int .i64 si, .int .i64 so]
          have KX := HK.out ⟨ss, si, so⟩ _ (fr_nil f fa)
          have HSN := Lib.hid hsn
          clear hsn
          go_wp2_with fail
          refine KX.mono ?_
          clear KX
          rintro e w2 ⟨x, bb, rfl, f2, hask⟩
          replace fa := fr_nil fa f2
          replace ia := ia.fr f2 id
          replace ib := ib.fr fa id
          have hown2 := wide_fr hown fa fun _ _ => id
          replace f := fr_nil f fa
          rw [hask] at HSN
          have d0 : w2.cell? ⟨wr.heap.size, 0, none⟩ = some (.int .i64 ss) := ia.cell 0
          clear p0 p1 p2 b0 hown hask f2 fa ia
          generalize wr.heap.size = bs at *
          generalize (path.take k).filterMap (ask l) = L at *
          cases bb with
          | false =>
            have HN : Hid (Nds zb ((path.take (k + 1)).filterMap (ask l)) w2 (.slice A L.length c)) := Lib.hid (by rw [HSN.out]; exact ⟨A, c, by simp, by simpa using hown2⟩)
            clear hown2 HSN
            go_wp2_with fail
            go_roundg (path.length - (k + 1))
            case measure => omega
            case rel => exact ⟨k + 1, by omega, rfl, by go_num, HN.out, f, ib⟩
          | true =>
            obtain ⟨i0, hi0, hz0, hz1, hz2⟩ := info_parts Try.infoNd
            have fb := (Fr.refl (fun _ => False) w2).alloc (.cells #[.int .i64 ss, .int .i64 x] 45)
            have hfs := f.size
            go_wp2_with (at_builtin; refine wpList_append_wide _ rfl (.tmp 34) (.tmp 39) 41 rfl zb 45 i0 _ 2 16 Try.underlying41 hi0 hz0 hz1 hz2 rfl (by decide) (.slice A L.length c) L.length (cellsN L) rfl (hown2.alloc _) (some ⟨w2.heap.size, 0, none⟩) 1 1 [.int .i64 ss, .int .i64 x] rfl rfl (lit_rd w2 _ _) (by simp [Value.oneCell']) (by unfold maxLen; omega) (by omega) (by have := HZ.out; have := fb.size; omega) ?_)
            intro v5 w5 hown5 hg5 _
            have hne := wide_is_ne (hown2.alloc (.cells #[.int .i64 ss, .int .i64 x] 45)) (ib.fr fb id) (by decide)
            have hlo := World.ownsRow.lt (hown2.alloc (.cells #[.int .i64 ss, .int .i64 x] 45))
            have ib5 := (ib.fr fb id).fr ((Fr.refl (fun q => (Value.slice A L.length c).ownBlock = some q) _).grown hg5 fun _ hq => .inl hq) hne
            have f5 : Fr (fun _ => False) w w5 := (fr_nil f fb).grown hg5 fun q hq => .inr (by have := (hlo q hq).1; have := HZ.out; omega)
            obtain ⟨A5, c5', rfl, _, _, _, _⟩ := wide_form hown5
            have HN : Hid (Nds zb ((path.take (k + 1)).filterMap (ask l)) w5 (.slice A5 (L.length + 1) c5')) := Lib.hid (by rw [HSN.out]; exact ⟨A5, c5', by simp, by simp only [if_true, List.length_append, List.length_cons, List.length_nil, cellsN_snoc]; exact hown5⟩)
            clear hown2 hown5 hg5 hne hlo HSN f fb ib d0 hi0 hz0 hz1 hz2
            go_wp2_with fail
            go_roundg (path.length - (k + 1))
            case measure => omega
            case rel => exact ⟨k + 1, by omega, rfl, by go_num, HN.out, f5, ib5⟩
        · have hk' : k = path.length := by omega
          have hle := filterMap_le (ask l) path k
          rw [hk', List.take_length] at hown
          rw [hk', List.take_length] at hle
          rw [hk', List.take_length]
          generalize path.filterMap (ask l) = L at *
          have b4 := ib.cell 4
          have x3 := (f.cell (p := ⟨g, o + j * 6 + 3, none⟩) (by have := HG.out; have := HZ.out; show g < _; omega) id).trans HS3.out
          obtain ⟨i0, hi0, hz0, hz1, hz2⟩ := info_parts Try.infoNd
          have hfs := f.size
          go_wp2_with (at_builtin; refine wpList_append_wide _ rfl (.tmp 42) (.tmp 48) 41 rfl zb 45 i0 _ 2 16 Try.underlying41 hi0 hz0 hz1 hz2 rfl (by decide) (.slice A L.length c) L.length (cellsN L) rfl hown a2 q2 flank.length (cellsN flank) (cellsN_length _) rfl (hfk.fr f fun _ _ => id) (cellsN_one _) (by unfold maxLen; omega) (by omega) (by have := HZ.out; omega) ?_)
          intro v5 w5 hown5 hg5 _
          have hlo := World.ownsRow.lt hown
          have f5 : Fr (fun _ => False) w w5 := f.grown hg5 fun q hq => .inr (by have := (hlo q hq).1; have := HZ.out; omega)
          obtain ⟨A5, c5', rfl, _, _, _, _⟩ := wide_form hown5
          have HN : Hid (Nds zb T w5 (.slice A5 (L.length + flank.length) c5')) := Lib.hid (by rw [hN.out]; exact ⟨A5, c5', by rw [List.length_append], by rw [List.length_append, cellsN_append]; exact hown5⟩)
          clear hown hown5 hg5 hlo f ib b4 x3 hi0 hz0 hz1 hz2
          go_wp2_with fail
          go_ret
          exact ⟨_, rfl, HN.out, f5⟩
    · rw [decide_eq_true h0, decide_eq_false h1] at KH
      have HT := Lib.hid (needs_far (C := C) h0 h1)
      have HF0 := Lib.hid f0
      have b4 := ib.cell 4
      generalize needs C r = T at *
      clear h0 h1 f0 ib hC hs
      go_enter Try.func13, Try.ntmps13
      go_wp2_with fail
      refine (KH _).mono ?_
      clear KH
      rintro e w1 ⟨rfl, rfl⟩
      go_wp2_with fail
      go_ret
      exact ⟨_, rfl, by rw [HT.out]; exact Nds.nil _ _, HF0.out⟩
  · rw [decide_eq_false h0] at KH
    have HT := Lib.hid (needs_neg (C := C) h0)
    have HF0 := Lib.hid f0
    have b4 := ib.cell 4
    generalize needs C r = T at *
    clear h0 f0 ib hC hs
    go_enter Try.func13, Try.ntmps13
    go_wp2_with fail
    refine (KH _).mono ?_
    clear KH
    rintro e w1 ⟨rfl, rfl⟩
    go_wp2_with fail
    go_ret
    exact ⟨_, rfl, by rw [HT.out]; exact Nds.nil _ _, HF0.out⟩
end Go.Proofs.Ytbjbkaphigolnaa.Mv

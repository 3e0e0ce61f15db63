/- Contracts and plain mathematics of earlier stages: Mv, Mnd, Mcr, Mcx. -/
import Derived.Test.YtginfnbdnkgjbaaGreatKa
import Derived.Test.YtginfnbdnkgjbaaGreatKc
import Derived.Deep.CutRange
import Derived.Deep.LoopGhost
namespace Go.Proofs.YtginfnbdnkgjbaaGreat.Mv
open Go.RowKit

/-- A number as a time: brought between -1 and 2^62. -/
def wz (x : Int) : Int := if x < -1 then -1 else if 4611686018427387904 < x then 4611686018427387904 else x
theorem wz_bd (x : Int) : -1 ≤ wz x ∧ wz x ≤ 4611686018427387904 := by unfold wz; split <;> (try split) <;> omega
theorem ret_int {k : IntKind} {a b : Int} (h : a = b) : Ending.returned (.int k a) = .returned (.int k b) := by rw [h]
theorem within_any (x : Int) (w : World) : Calls Tryz.prog 251 #[.int .i64 x] w fun e w' => e = .returned (.int .i64 (wz x)) ∧ w = w' := by
  obtain ⟨y, hy, hz⟩ : ∃ y, (if x < -1 then -1 else x) = y ∧ Hid (wz x = if 4611686018427387904 < y then 4611686018427387904 else y) := ⟨_, rfl, Lib.hid (by unfold wz; split <;> (try split) <;> (try omega))⟩
  go_enter Tryz.func251, Tryz.ntmps251
  go_wp2_with fail
  · go_ret
    exact ⟨ret_int (by rw [hz.out, if_pos (by omega)]), rfl⟩
  · go_ret
    exact ⟨ret_int (by rw [hz.out, if_neg (by omega)]), rfl⟩
theorem start_any (n : Int) (w : World) : Calls Tryz.prog 125 #[.int .i64 n] w fun e w' => e = .returned (.agg #[.int .i64 0, .int .i64 n]) ∧ Fr (fun _ => False) w w' := by
  have HF := Lib.hid ((Fr.refl (fun _ => False) w).alloc (.cells #[.int .i64 0, .int .i64 n] 48))
  go_enter Tryz.func125, Tryz.ntmps125
  go_wp2_with fail
  exact bodyPost_ret (v := .agg #[.int .i64 0, .int .i64 n]) (by simp [results, Tryz.results125, go_sem]) rfl ⟨rfl, HF.out⟩
theorem command_any (c o now cmd : Int) (w : World) : Calls Tryz.prog 126 #[.agg #[.int .i64 c, .int .i64 o], .int .i64 now, .int .i64 cmd] w fun e w' => e = .returned (.agg #[.int .i64 cmd, .int .i64 (if c = cmd then o else now)]) ∧ Fr (fun _ => False) w w' := by
  by_cases h : c = cmd
  · subst h
    rw [if_pos rfl]
    have HF := Lib.hid (((Fr.refl (fun _ => False) w).alloc (.cells #[.int .i64 c, .int .i64 o] 48)).alloc (.cells #[.int .i64 c, .int .i64 o] 48))
    go_enter Tryz.func126, Tryz.ntmps126
    go_wp2_with fail
    exact bodyPost_ret (v := .agg #[.int .i64 c, .int .i64 o]) (by simp [results, Tryz.results126, go_sem]) rfl ⟨rfl, HF.out⟩
  · rw [if_neg h]
    have hb : (c == cmd) = false := by simpa using h
    have HF := Lib.hid (((Fr.refl (fun _ => False) w).alloc (.cells #[.int .i64 c, .int .i64 o] 48)).alloc (.cells #[.int .i64 cmd, .int .i64 now] 48))
    clear h
    go_enter Tryz.func126, Tryz.ntmps126
    go_wp2_with fail
    exact bodyPost_ret (v := .agg #[.int .i64 cmd, .int .i64 now]) (by simp [results, Tryz.results126, go_sem]) rfl ⟨rfl, HF.out⟩
/-- Proven, as plain data: mover (c, o), look (v, s, q), age. -/
def pv (c o v s : Int) (q : Bool) (age : Int) : Bool := q && (c != 0 && (c == v && decide (wz age < wz s - wz o)))
set_option maxHeartbeats 2000000 in
theorem proven_any (c o v s : Int) (q : Bool) (age : Int) (w : World) : Calls Tryz.prog 232 #[.agg #[.int .i64 c, .int .i64 o], .agg #[.int .i64 v, .int .i64 s, .bool q], .int .i64 age] w fun e w' => e = .returned (.bool (pv c o v s q age)) ∧ Fr (fun _ => False) w w' := by
  have b1 := wz_bd s
  have b2 := wz_bd o
  have hs : wrap64 (wz s - wz o) = wz s - wz o := IntWalk.wrap64_in _ ⟨by omega, by omega⟩
  have HP : Hid (pv c o v s q age = (q && (c != 0 && (c == v && decide (wz age < wz s - wz o))))) := Lib.hid rfl
  have K := within_any
  have HF : ∀ n, Hid (Fr (fun _ => False) w (((w.alloc (.cells #[.int .i64 c, .int .i64 o] 48)).alloc (.cells #[.int .i64 v, .int .i64 s, .bool q] 92)).drewN n)) := fun n => Lib.hid ((((Fr.refl (fun _ => False) w).alloc _).alloc _).drewN n)
  cases q with
  | false =>
    go_enter Tryz.func232, Tryz.ntmps232
    go_wp2_with fail
    go_quiet (fail)
    go_wp2_with fail
    go_ret
    exact ⟨by rw [HP.out]; rfl, (HF _).out⟩
  | true =>
    by_cases h0 : c = 0
    · subst h0
      go_enter Tryz.func232, Tryz.ntmps232
      go_wp2_with fail
      go_quiet (fail)
      go_wp2_with fail
      go_ret
      exact ⟨by rw [HP.out]; rfl, (HF _).out⟩
    · have d0 : (c == 0) = false := by simpa using h0
      have d0' : (c != 0) = true := by simpa using h0
      by_cases h1 : c = v
      · subst h1
        have HP2 : Hid (pv c o c s true age = decide (wz age < wz s - wz o)) := Lib.hid (by rw [HP.out, d0', beq_self_eq_true]; rfl)
        clear HP h0
        generalize pv c o c s true age = r at *
        go_enter Tryz.func232, Tryz.ntmps232
        go_wp2_with fail
        go_quiet ((go_at_call 251; exact Calls.quiet_of_same ((K _ _).mono fun _ _ ⟨a, b⟩ => ⟨a, b.symm⟩)))
        go_wp2_with fail
        go_ret
        exact ⟨by rw [HP2.out]; rfl, (HF _).out⟩
      · have d1 : (c == v) = false := by simpa using h1
        have HP2 : Hid (pv c o v s true age = false) := Lib.hid (by rw [HP.out, d0', d1]; rfl)
        clear HP h0 h1
        go_enter Tryz.func232, Tryz.ntmps232
        go_wp2_with fail
        go_quiet (fail)
        go_wp2_with fail
        go_ret
        exact ⟨by rw [HP2.out]; rfl, (HF _).out⟩
end Go.Proofs.YtginfnbdnkgjbaaGreat.Mv

namespace Go.Proofs.YtginfnbdnkgjbaaGreat.Mv
open Go.RowKit

theorem Tryz.infoNd : (Tryz.prog.info? 109).map (fun i => (i.zero, i.size, i.bytes)) = some (some (.agg #[.int .i64 0, .int .i64 0]), 2, 16) := by kernel_rfl
/-- the position that a step asks for -/
def ask (l : List Sec) (s : St) : Option Nd :=
  if 0 ≤ s.sec then (match l[s.sec.toNat]? with | none => none | some k => if (posOk k.kind s.inn s.out && posOut k.kind s.inn s.out != 0) = true then some ⟨s.sec, posOut k.kind s.inn s.out⟩ else none) else none
theorem ask_neg {l : List Sec} {s : St} (h : ¬ 0 ≤ s.sec) : ask l s = none := by unfold ask; rw [if_neg h]
theorem ask_far {l : List Sec} {s : St} (h : 0 ≤ s.sec) (h2 : ¬ s.sec < l.length) : ask l s = none := by
  unfold ask
  rw [if_pos h, List.getElem?_eq_none (by omega)]
theorem ask_at {l : List Sec} {s : St} {j : Nat} (hj : s.sec = (j : Int)) (h : j < l.length) : ask l s = if (posOk l[j].kind s.inn s.out && posOut l[j].kind s.inn s.out != 0) = true then some ⟨s.sec, posOut l[j].kind s.inn s.out⟩ else none := by
  unfold ask
  rw [if_pos (by omega), show s.sec.toNat = j by omega, List.getElem?_eq_getElem h]
/-- what a route needs -/
def needs (C : Cm) (r : Int) : List Nd := if 0 ≤ r then (match C.rs[r.toNat]? with | none => [] | some q => q.path.filterMap (ask C.l) ++ q.flank) else []
theorem needs_neg {C : Cm} {r : Int} (h : ¬ 0 ≤ r) : needs C r = [] := by unfold needs; rw [if_neg h]
theorem needs_far {C : Cm} {r : Int} (h : 0 ≤ r) (h2 : ¬ r < C.rs.length) : needs C r = [] := by
  unfold needs
  rw [if_pos h, List.getElem?_eq_none (by omega)]
theorem needs_at {C : Cm} {j : Nat} (h : j < C.rs.length) : needs C (j : Int) = C.rs[j].path.filterMap (ask C.l) ++ C.rs[j].flank := by
  unfold needs
  rw [if_pos (by omega), show ((j : Int)).toNat = j by omega, List.getElem?_eq_getElem h]

theorem hasr_any (A : Option Addr) (n c : Nat) (r : Int) (w : World) : Calls Tryz.prog 200 #[.slice A n c, .int .i64 r] w fun e w' => e = .returned (.bool (decide (0 ≤ r) && decide (r < n))) ∧ w = w' := by
  by_cases h : 0 ≤ r
  · have d : decide (0 ≤ r) = true := decide_eq_true h
    rw [d]
    go_enter Tryz.func200, Tryz.ntmps200
    go_wp2
    go_ret
    exact ⟨rfl, rfl⟩
  · have d : decide (0 ≤ r) = false := decide_eq_false h
    rw [d]
    go_enter Tryz.func200, Tryz.ntmps200
    go_wp2
    go_ret
    exact ⟨rfl, rfl⟩
theorem hass_any (A : Option Addr) (n c : Nat) (r : Int) (w : World) : Calls Tryz.prog 228 #[.slice A n c, .int .i64 r] w fun e w' => e = .returned (.bool (decide (0 ≤ r) && decide (r < n))) ∧ w = w' := by
  by_cases h : 0 ≤ r
  · have d : decide (0 ≤ r) = true := decide_eq_true h
    rw [d]
    go_enter Tryz.func228, Tryz.ntmps228
    go_wp2
    go_ret
    exact ⟨rfl, rfl⟩
  · have d : decide (0 ≤ r) = false := decide_eq_false h
    rw [d]
    go_enter Tryz.func228, Tryz.ntmps228
    go_wp2
    go_ret
    exact ⟨rfl, rfl⟩

/-- what asked answers -/
def Asked (l : List Sec) (s : St) (w : World) (e : Ending) (w' : World) : Prop := ∃ (x : Int) (b : Bool), e = .returned (.tuple #[.int .i64 x, .bool b]) ∧ Fr (fun _ => False) w w' ∧ ask l s = if b = true then some ⟨s.sec, x⟩ else none
set_option maxHeartbeats 4000000 in
theorem asked_any {A : Option Addr} {c : Nat} {l : List Sec} (s : St) (w : World) (h : Rd w A (cellsS l)) :
    Calls Tryz.prog 201 #[.slice A l.length c, .agg #[.int .i64 s.sec, .int .i64 s.inn, .int .i64 s.out]] w (Asked l s w) := by
  have KH := hass_any A l.length c s.sec
  have f0 := (Fr.refl (fun _ => False) w).alloc (.cells #[.int .i64 s.sec, .int .i64 s.inn, .int .i64 s.out] 76)
  have ib := Is.new w 76 #[.int .i64 s.sec, .int .i64 s.inn, .int .i64 s.out]
  have b0 := ib.cell 0
  by_cases h0 : 0 ≤ s.sec
  · by_cases h1 : s.sec < l.length
    · rw [decide_eq_true h0, decide_eq_true h1] at KH
      obtain ⟨j, hj⟩ : ∃ j : Nat, s.sec = (j : Int) := ⟨s.sec.toNat, by omega⟩
      have hjl : j < l.length := by omega
      have HASK := Lib.hid (ask_at hj hjl)
      have hS := h.fr f0 fun _ _ => id
      obtain ⟨g, o, rfl, s0, s1, s2⟩ := rd_sec hS hjl
      have KP := pos_any l[j].kind s.inn s.out
      generalize l[j].kind = kd at *
      obtain ⟨ss, si, so⟩ := s
      simp only at *
      subst hj
      clear h h0 h1 s1 s2 hS
      go_enter Tryz.func201, Tryz.ntmps201
      go_wp2_with fail
      refine (KH _).mono ?_
      clear KH
      rintro e w1 ⟨rfl, rfl⟩
      have HF0 := Lib.hid f0
      clear f0 b0
      go_wp2_with fail
      generalize w.alloc _ = w1 at *
      generalize w.heap.size = b at *
      have x0 : ∀ u : Fro w1, u.w.cell? ⟨b, 0, none⟩ = some (.int .i64 (j : Nat)) := cell_fro (ib.cell 0)
      have x1 : ∀ u : Fro w1, u.w.cell? ⟨b, 1, none⟩ = some (.int .i64 si) := cell_fro (ib.cell 1)
      have x2 : ∀ u : Fro w1, u.w.cell? ⟨b, 2, none⟩ = some (.int .i64 so) := cell_fro (ib.cell 2)
      have y0 : ∀ u : Fro w1, u.w.cell? ⟨g, o + j * 3, none⟩ = some (.int .i64 kd) := cell_fro s0
      clear s0 ib
      refine region_fro (by kernel_rfl) (by kernel_rfl) ?_
      repeat (go_big_quiet_step ((go_at_call 229; with_reducible exact call_fro (KP _))))
      refine wpQuiet_nil ?_
      rintro _ ⟨⟨w6, f6⟩, rfl⟩
      have HF := Lib.hid (fr_nil HF0.out f6)
      clear x0 x1 x2 y0 KP f6 HF0
      cases hk : posOk kd si so
      · have HP : Hid (ask l ⟨(j : Int), si, so⟩ = none) := Lib.hid (by rw [HASK.out, hk]; rfl)
        clear HASK hk
        go_wp2_with fail
        go_ret2
        exact ⟨_, _, rfl, HF.out, HP.out⟩
      · generalize posOut kd si so = x at *
        have HP : Hid (ask l ⟨(j : Int), si, so⟩ = if (x != 0) = true then some ⟨(j : Int), x⟩ else none) := Lib.hid (by rw [HASK.out, hk]; rfl)
        clear HASK hk
        go_wp2_with fail
        go_ret2
        exact ⟨_, _, rfl, HF.out, HP.out⟩
    · rw [decide_eq_true h0, decide_eq_false h1] at KH
      have HASK := Lib.hid (ask_far h0 h1)
      have HF0 := Lib.hid f0
      clear h0 h1 f0
      go_enter Tryz.func201, Tryz.ntmps201
      go_wp2_with fail
      refine (KH _).mono ?_
      clear KH
      rintro e w1 ⟨rfl, rfl⟩
      go_wp2_with fail
      go_ret2
      exact ⟨_, _, rfl, HF0.out, HASK.out⟩
  · rw [decide_eq_false h0] at KH
    have HASK := Lib.hid (ask_neg (l := l) h0)
    have HF0 := Lib.hid f0
    clear h0 f0
    go_enter Tryz.func201, Tryz.ntmps201
    go_wp2_with fail
    refine (KH _).mono ?_
    clear KH
    rintro e w1 ⟨rfl, rfl⟩
    go_wp2_with fail
    go_ret2
    exact ⟨_, _, rfl, HF0.out, HASK.out⟩

/-- a row of needs of the call's own -/
def Nds (w0 : Nat) (l : List Nd) (w : World) (v : Value) : Prop := ∃ A c, v = .slice A l.length c ∧ w.ownsRow w0 109 2 (.slice A l.length c) l.length (cellsN l)
theorem Nds.nil (w0 : Nat) (w : World) : Nds w0 [] w (.slice none 0 0) := ⟨none, 0, rfl, World.ownsRow_nil w w0 _ 2⟩
theorem Nds.fr {w0 : Nat} {l : List Nd} {w w1 : World} {v : Value} (h : Nds w0 l w v) (f : Fr (fun _ => False) w w1) : Nds w0 l w1 v := by
  obtain ⟨A, c, rfl, o⟩ := h
  exact ⟨A, c, rfl, wide_fr o f fun _ _ => id⟩
/-- the routes are not too long -/
def Slim (C : Cm) : Prop := ∀ r ∈ C.rs, r.path.length ≤ 1048576 ∧ r.flank.length ≤ 1048576
theorem filterMap_snoc {α β : Type} (f : α → Option β) (l : List α) (k : Nat) (h : k < l.length) : (l.take (k + 1)).filterMap f = (l.take k).filterMap f ++ (match f l[k] with | none => [] | some b => [b]) := by
  rw [List.take_succ_eq_append_getElem h, List.filterMap_append]
  cases hf : f l[k] <;> simp [hf]
theorem filterMap_le {α β : Type} (f : α → Option β) (l : List α) (k : Nat) : ((l.take k).filterMap f).length ≤ k := by
  have := List.length_filterMap_le f (l.take k)
  have := List.length_take_le k l
  omega

theorem cellsN_append (a b : List Nd) : cellsN (a ++ b) = cellsN a ++ cellsN b := by
  unfold cellsN
  rw [List.flatMap_append]
theorem cellsN_one (l : List Nd) : ∀ u ∈ cellsN l, u.oneCell' = true := by
  intro u hu
  obtain ⟨s, _, hs⟩ := List.mem_flatMap.1 hu
  simp at hs
  rcases hs with rfl | rfl <;> rfl
def NdsE (w0 : Nat) (l : List Nd) (w : World) (e : Ending) (w' : World) : Prop := ∃ v, e = .returned v ∧ Nds w0 l w' v ∧ Fr (fun _ => False) w w'
set_option maxHeartbeats 8000000 in
set_option maxRecDepth 100000 in
theorem needs_any {C : Cm} (r : Int) (w : World) (hC : C.Ok w) (hs : Slim C) : Calls Tryz.prog 149 #[C.val, .int .i64 r] w (NdsE w.heap.size (needs C r) w) := by
  have KH := hasr_any C.A5 C.rs.length C.c5 r
  have f0 := (Fr.refl (fun _ => False) w).alloc (.cells C.arr 30)
  have ib := Is.new w 30 C.arr
  unfold Cm.val
  unfold Cm.arr at *
  by_cases h0 : 0 ≤ r
  · by_cases h1 : r < C.rs.length
    · rw [decide_eq_true h0, decide_eq_true h1] at KH
      obtain ⟨j, hj⟩ : ∃ j : Nat, r = (j : Int) := ⟨r.toNat, by omega⟩
      subst hj
      have hjl : j < C.rs.length := by omega
      have hN := Lib.hid (needs_at (C := C) hjl)
      have hr := hC.each _ (List.getElem_mem hjl)
      obtain ⟨hp20, hf20⟩ := hs _ (List.getElem_mem hjl)
      obtain ⟨g, o, e5, _, _, s2, s3, _, _⟩ := rd_ro hC.rts hjl
      have hl5 := hC.l5
      have hk5 := hC.k5
      generalize C.rs[j] = q at *
      have KA := fun s W (f : Fr (fun _ => False) w W) => asked_any (c := C.c1) s W (hC.secs.fr f fun _ _ => id)
      obtain ⟨A1, c1, l, A2, c2, js, A3, c3, sg, A4, c4, cr, A5, c5, rs, tm⟩ := C
      simp only at *
      subst e5
      have HK := Lib.hid KA
      generalize needs _ (j : Int) = T at *
      have hp := hr.path
      have hfk := hr.flank
      have hl1 := hr.l1
      have hl2 := hr.l2
      have hk1 := hr.k1
      have hk2 := hr.k2
      have HF0 := Lib.hid f0
      have HG : Hid (g < w.heap.size) := Lib.hid (World.block_lt_of_cell? _ _ s3)
      have HS2 := Lib.hid s2
      have HS3 := Lib.hid s3
      have HIB := Lib.hid ib
      clear hC hs KA h0 h1 hr
      obtain ⟨en, ex, a1, q1, path, a2, q2, flank, a3, q3, over, sh⟩ := q
      simp only at *
      have b4 := ib.cell 4
      have x2 := (f0.cell (p := ⟨g, o + j * 6 + 2, none⟩) HG.out id).trans s2
      clear ib f0 s2 s3
      go_enter Tryz.func149, Tryz.ntmps149
      go_wp2_with fail
      refine (KH _).mono ?_
      clear KH
      rintro e w1 ⟨rfl, rfl⟩
      go_wp2_with fail
      generalize w.alloc _ = w1 at *
      generalize hzb : w.heap.size = zb at *
      have HZ := Lib.hid hzb
      clear hzb b4 x2
      go_loopg [5, 22] path.length (fun gh v5 i wr => ∃ k : Nat, k ≤ path.length ∧ gh = path.length - k ∧ i = .int .i64 (k : Nat) ∧ Nds zb ((path.take k).filterMap (ask l)) wr v5 ∧ Fr (fun _ => False) w wr ∧ Is wr zb 30 #[.slice A1 l.length c1, .slice A2 js.length c2, .slice A3 sg.length c3, .slice A4 cr.length c4, .slice (some ⟨g, o, none⟩) rs.length c5, .int .i64 tm.age, .int .i64 tm.brake, .int .i64 tm.hold, .int .i64 tm.budget])
      case atStart => exact ⟨0, Nat.zero_le _, rfl, rfl, Nds.nil _ _, HF0.out, HIB.out⟩
      case round =>
        clear HF0 HIB
        obtain ⟨k, hk, rfl, rfl, ⟨A, c, rfl, hown⟩, f, ib⟩ := hrel
        by_cases hlt : k < path.length
        · obtain ⟨gp, op, ea, p0, p1, p2⟩ := rd_st (hp.fr f fun _ _ => id) hlt
          subst ea
          have hsn := filterMap_snoc (ask l) path k hlt
          have hle := filterMap_le (ask l) path k
          generalize path[k] = s at *
          obtain ⟨ss, si, so⟩ := s
          simp only at p0 p1 p2
          have fa := (Fr.refl (fun _ => False) wr).alloc (.cells #[.int .i64 ss, .int .i64 si, .int .i64 so] 76)
          have b0 := (ib.fr fa id).cell 0
          have ia := Is.new wr 76 #[.int .i64 ss, .int .i64 si, .int .i64 so]
          have KX := HK.out ⟨ss, si, so⟩ _ (fr_nil f fa)
          have HSN := Lib.hid hsn
          clear hsn
          go_wp2_with fail
          refine KX.mono ?_
          clear KX
          rintro e w2 ⟨x, bb, rfl, f2, hask⟩
          replace fa := fr_nil fa f2
          replace ia := ia.fr f2 id
          replace ib := ib.fr fa id
          have hown2 := wide_fr hown fa fun _ _ => id
          replace f := fr_nil f fa
          rw [hask] at HSN
          have d0 : w2.cell? ⟨wr.heap.size, 0, none⟩ = some (.int .i64 ss) := ia.cell 0
          clear p0 p1 p2 b0 hown hask f2 fa ia
          generalize wr.heap.size = bs at *
          generalize (path.take k).filterMap (ask l) = L at *
          cases bb with
          | false =>
            have HN : Hid (Nds zb ((path.take (k + 1)).filterMap (ask l)) w2 (.slice A L.length c)) := Lib.hid (by rw [HSN.out]; exact ⟨A, c, by simp, by simpa using hown2⟩)
            clear hown2 HSN
            go_wp2_with fail
            go_roundg (path.length - (k + 1))
            case measure => omega
            case rel => exact ⟨k + 1, by omega, rfl, by go_num, HN.out, f, ib⟩
          | true =>
            obtain ⟨i0, hi0, hz0, hz1, hz2⟩ := info_parts Tryz.infoNd
            have fb := (Fr.refl (fun _ => False) w2).alloc (.cells #[.int .i64 ss, .int .i64 x] 109)
            have hfs := f.size
            go_wp2_with (at_builtin; refine wpList_append_wide _ rfl (.tmp 34) (.tmp 39) 72 rfl zb 109 i0 _ 2 16 Tryz.underlying72 hi0 hz0 hz1 hz2 rfl (by decide) (.slice A L.length c) L.length (cellsN L) rfl (hown2.alloc _) (some ⟨w2.heap.size, 0, none⟩) 1 1 [.int .i64 ss, .int .i64 x] rfl rfl (lit_rd w2 _ _) (by simp [Value.oneCell']) (by unfold maxLen; omega) (by omega) (by have := HZ.out; have := fb.size; omega) ?_)
            intro v5 w5 hown5 hg5 _
            have hne := wide_is_ne (hown2.alloc (.cells #[.int .i64 ss, .int .i64 x] 109)) (ib.fr fb id) (by decide)
            have hlo := World.ownsRow.lt (hown2.alloc (.cells #[.int .i64 ss, .int .i64 x] 109))
            have ib5 := (ib.fr fb id).fr ((Fr.refl (fun q => (Value.slice A L.length c).ownBlock = some q) _).grown hg5 fun _ hq => .inl hq) hne
            have f5 : Fr (fun _ => False) w w5 := (fr_nil f fb).grown hg5 fun q hq => .inr (by have := (hlo q hq).1; have := HZ.out; omega)
            obtain ⟨A5, c5', rfl, _, _, _, _⟩ := wide_form hown5
            have HN : Hid (Nds zb ((path.take (k + 1)).filterMap (ask l)) w5 (.slice A5 (L.length + 1) c5')) := Lib.hid (by rw [HSN.out]; exact ⟨A5, c5', by simp, by simp only [if_true, List.length_append, List.length_cons, List.length_nil, cellsN_snoc]; exact hown5⟩)
            clear hown2 hown5 hg5 hne hlo HSN f fb ib d0 hi0 hz0 hz1 hz2
            go_wp2_with fail
            go_roundg (path.length - (k + 1))
            case measure => omega
            case rel => exact ⟨k + 1, by omega, rfl, by go_num, HN.out, f5, ib5⟩
        · have hk' : k = path.length := by omega
          have hle := filterMap_le (ask l) path k
          rw [hk', List.take_length] at hown
          rw [hk', List.take_length] at hle
          rw [hk', List.take_length]
          generalize path.filterMap (ask l) = L at *
          have b4 := ib.cell 4
          have x3 := (f.cell (p := ⟨g, o + j * 6 + 3, none⟩) (by have := HG.out; have := HZ.out; show g < _; omega) id).trans HS3.out
          obtain ⟨i0, hi0, hz0, hz1, hz2⟩ := info_parts Tryz.infoNd
          have hfs := f.size
          go_wp2_with (at_builtin; refine wpList_append_wide _ rfl (.tmp 42) (.tmp 48) 72 rfl zb 109 i0 _ 2 16 Tryz.underlying72 hi0 hz0 hz1 hz2 rfl (by decide) (.slice A L.length c) L.length (cellsN L) rfl hown a2 q2 flank.length (cellsN flank) (cellsN_length _) rfl (hfk.fr f fun _ _ => id) (cellsN_one _) (by unfold maxLen; omega) (by omega) (by have := HZ.out; omega) ?_)
          intro v5 w5 hown5 hg5 _
          have hlo := World.ownsRow.lt hown
          have f5 : Fr (fun _ => False) w w5 := f.grown hg5 fun q hq => .inr (by have := (hlo q hq).1; have := HZ.out; omega)
          obtain ⟨A5, c5', rfl, _, _, _, _⟩ := wide_form hown5
          have HN : Hid (Nds zb T w5 (.slice A5 (L.length + flank.length) c5')) := Lib.hid (by rw [hN.out]; exact ⟨A5, c5', by rw [List.length_append], by rw [List.length_append, cellsN_append]; exact hown5⟩)
          clear hown hown5 hg5 hlo f ib b4 x3 hi0 hz0 hz1 hz2
          go_wp2_with fail
          go_ret
          exact ⟨_, rfl, HN.out, f5⟩
    · rw [decide_eq_true h0, decide_eq_false h1] at KH
      have HT := Lib.hid (needs_far (C := C) h0 h1)
      have HF0 := Lib.hid f0
      have b4 := ib.cell 4
      generalize needs C r = T at *
      clear h0 h1 f0 ib hC hs
      go_enter Tryz.func149, Tryz.ntmps149
      go_wp2_with fail
      refine (KH _).mono ?_
      clear KH
      rintro e w1 ⟨rfl, rfl⟩
      go_wp2_with fail
      go_ret
      exact ⟨_, rfl, by rw [HT.out]; exact Nds.nil _ _, HF0.out⟩
  · rw [decide_eq_false h0] at KH
    have HT := Lib.hid (needs_neg (C := C) h0)
    have HF0 := Lib.hid f0
    have b4 := ib.cell 4
    generalize needs C r = T at *
    clear h0 f0 ib hC hs
    go_enter Tryz.func149, Tryz.ntmps149
    go_wp2_with fail
    refine (KH _).mono ?_
    clear KH
    rintro e w1 ⟨rfl, rfl⟩
    go_wp2_with fail
    go_ret
    exact ⟨_, rfl, by rw [HT.out]; exact Nds.nil _ _, HF0.out⟩
end Go.Proofs.YtginfnbdnkgjbaaGreat.Mv

namespace Go.Proofs.YtginfnbdnkgjbaaGreat.Mv
open Go.RowKit

/-- does a step stand in the section? -/
def inB (x : Int) (s : St) : Bool := s.sec == x
/-- the first place at which a test holds; -1, if there is none -/
def firstP {α : Type} (f : α → Bool) : List α → Nat → Int
  | [], _ => -1
  | x :: r, k => if f x = true then k else firstP f r (k + 1)
theorem firstP_ge {α : Type} (f : α → Bool) : ∀ (a : List α) (k : Nat), decide (0 ≤ firstP f a k) = a.any f
  | [], _ => rfl
  | x :: r, k => by
    unfold firstP
    rw [List.any_cons]
    by_cases h : f x = true
    · rw [if_pos h, h, Bool.true_or]
      simp
    · have hf : f x = false := by simpa using h
      rw [if_neg h, hf, Bool.false_or]
      exact firstP_ge f r (k + 1)

theorem instep_any {w : World} {b : Nat} {x : Int} (h : Is w b 3 #[.int .i64 x]) (s : St) :
    Calls Tryz.prog 231 #[.agg #[.int .i64 s.sec, .int .i64 s.inn, .int .i64 s.out], .pointer (some ⟨b, 0, none⟩)] w fun e w' => e = .returned (.bool (inB x s)) ∧ Fr (fun _ => False) w w' := by
  have HF := Lib.hid ((Fr.refl (fun _ => False) w).alloc (.cells #[.int .i64 s.sec, .int .i64 s.inn, .int .i64 s.out] 76))
  have k1 : (w.alloc (.cells #[.int .i64 s.sec, .int .i64 s.inn, .int .i64 s.out] 76)).cell? ⟨b, 0, none⟩ = some (.int .i64 x) := (h.fr HF.out id).cell 0
  unfold inB
  go_enter Tryz.func231, Tryz.ntmps231
  go_wp2
  go_ret
  exact ⟨rfl, HF.out⟩

set_option maxHeartbeats 1000000 in
theorem indexs_any {A : Option Addr} {c b : Nat} {x : Int} {a : List St} (w : World) (ha : Rd w A (cellsT a)) (hal : a.length ≤ 9223372036854775807) (hb : Is w b 3 #[.int .i64 x]) :
    Calls Tryz.prog 250 #[.slice A a.length c, .func (.func 231) #[] #[.pointer (some ⟨b, 0, none⟩)]] w fun e w' => e = .returned (.int .i64 (firstP (inB x) a 0)) ∧ Fr (fun _ => False) w w' := by
  have K := fun s W (hb : Is W b 3 #[.int .i64 x]) => instep_any hb s
  generalize hT : firstP (inB x) a 0 = T
  have HT := Lib.hid hT
  clear hT
  go_enter Tryz.func250, Tryz.ntmps250
  go_wp2_with fail
  go_loopw [8] (fun i wr => ∃ k : Nat, k ≤ a.length ∧ i = .int .i64 (k : Nat) ∧ firstP (inB x) (a.drop k) k = T ∧ Fr (fun _ => False) w wr) (fun i _ => a.length - (intOf i).toNat)
  case atStart => exact ⟨0, Nat.zero_le _, rfl, HT.out, Fr.refl _ _⟩
  case round =>
    clear HT
    obtain ⟨k, hk, rfl, hT, fr⟩ := hrel
    by_cases hlt : k < a.length
    · obtain ⟨g, o, rfl, q0, q1, q2⟩ := rd_st (ha.fr fr fun _ _ => id) hlt
      have KX := K a[k]
      rw [List.drop_eq_getElem_cons hlt, firstP] at hT
      generalize a[k] = y at *
      obtain ⟨y0, y1, y2⟩ := y
      simp only at q0 q1 q2
      cases hx : inB x ⟨y0, y1, y2⟩
      · rw [hx] at hT KX
        rw [if_neg (by decide)] at hT
        have HT := Lib.hid hT
        clear hT hx K
        go_wp2_with fail
        refine (KX _ (hb.fr fr id)).mono ?_
        rintro e w1 ⟨rfl, f1⟩
        go_wp2_with fail
        go_roundw
        case rel => exact ⟨k + 1, by omega, by go_num, HT.out, fr_nil fr f1⟩
        case measure => simp [intOf]; omega
      · rw [hx] at hT KX
        rw [if_pos rfl] at hT
        have HT := Lib.hid hT
        clear hT hx K
        go_wp2_with fail
        refine (KX _ (hb.fr fr id)).mono ?_
        rintro e w1 ⟨rfl, f1⟩
        go_wp2_with fail
        go_ret
        exact ⟨by rw [← HT.out]; rfl, fr_nil fr f1⟩
    · have hk' : k = a.length := by omega
      rw [List.drop_eq_nil_of_le (by omega)] at hT
      have HT := Lib.hid hT
      clear hT K hk'
      go_wp2_with fail
      go_ret
      exact ⟨by rw [← HT.out]; rfl, fr⟩
theorem containss_any {A : Option Addr} {c b : Nat} {x : Int} {a : List St} (w : World) (ha : Rd w A (cellsT a)) (hal : a.length ≤ 9223372036854775807) (hb : Is w b 3 #[.int .i64 x]) :
    Calls Tryz.prog 230 #[.slice A a.length c, .func (.func 231) #[] #[.pointer (some ⟨b, 0, none⟩)]] w fun e w' => e = .returned (.bool (a.any (inB x))) ∧ Fr (fun _ => False) w w' := by
  have K := indexs_any (c := c) w ha hal hb
  rw [← firstP_ge _ _ 0]
  generalize firstP (inB x) a 0 = T at *
  go_enter Tryz.func230, Tryz.ntmps230
  go_wp2_with fail
  refine K.mono ?_
  rintro e w1 ⟨rfl, f1⟩
  go_wp2_with fail
  go_ret
  exact ⟨rfl, f1⟩
theorem passes_any {q : Ro} (x : Int) (w : World) (h : q.Ok w) :
    Calls Tryz.prog 202 #[q.val, .int .i64 x] w fun e w' => e = .returned (.bool (q.path.any (inB x))) ∧ Fr (fun _ => False) w w' := by
  obtain ⟨en, ex, a1, q1, path, a2, q2, flank, a3, q3, over, sh⟩ := q
  have hp := h.path
  have hl := h.l1
  have hk := h.k1
  unfold Ro.val
  simp only at *
  clear h
  have f0 := ((Fr.refl (fun _ => False) w).alloc (.cells #[.int .i64 en, .int .i64 ex, .slice a1 path.length q1, .slice a2 flank.length q2, .slice a3 over.length q3, .bool sh] 74)).alloc (.cells #[.int .i64 x] 3)
  have i1 := Is.new (w.alloc (.cells #[.int .i64 en, .int .i64 ex, .slice a1 path.length q1, .slice a2 flank.length q2, .slice a3 over.length q3, .bool sh] 74)) 3 #[.int .i64 x]
  have i0 := (Is.new w 74 #[.int .i64 en, .int .i64 ex, .slice a1 path.length q1, .slice a2 flank.length q2, .slice a3 over.length q3, .bool sh]).alloc (.cells #[.int .i64 x] 3)
  have K := containss_any (c := q1) _ (hp.fr f0 fun _ _ => id) (by omega) i1
  have c2 := i0.cell 2
  simp only [World.size_alloc] at K i1
  have HF := Lib.hid f0
  clear f0 i0 i1 hp
  go_enter Tryz.func202, Tryz.ntmps202
  go_wp2_with fail
  refine K.mono ?_
  clear K
  rintro e w1 ⟨rfl, f1⟩
  have HF1 := Lib.hid (fr_nil HF.out f1)
  clear f1 c2
  go_wp2_with fail
  go_ret
  exact ⟨rfl, HF1.out⟩
end Go.Proofs.YtginfnbdnkgjbaaGreat.Mv

namespace Go.Proofs.YtginfnbdnkgjbaaGreat.Mv
open Go.RowKit

/-- the crossings among the first k of the list whose section stands in the path -/
def crsT (path : List St) (cr : List Int) (k : Nat) : List Int := ((List.range k).filter fun i => path.any (inB (cr.getD i 0))).map Int.ofNat
theorem crsT_snoc (path : List St) (cr : List Int) (k : Nat) (h : k < cr.length) : crsT path cr (k + 1) = crsT path cr k ++ (if path.any (inB cr[k]) = true then [(k : Int)] else []) := by
  unfold crsT
  rw [List.range_succ, List.filter_append, List.map_append]
  congr 1
  have e : cr.getD k 0 = cr[k] := by rw [List.getD_eq_getElem?_getD, List.getElem?_eq_getElem h]; rfl
  cases hq : path.any (inB cr[k])
  · rw [List.filter_cons_of_neg (by rw [e, hq]; decide)]
    rfl
  · rw [List.filter_cons_of_pos (by rw [e]; exact hq)]
    rfl
theorem crsT_le (path : List St) (cr : List Int) (k : Nat) : (crsT path cr k).length ≤ k := by
  unfold crsT
  rw [List.length_map]
  have := List.length_filter_le (fun i => path.any (inB (cr.getD i 0))) (List.range k)
  rw [List.length_range] at this
  exact this
/-- the crossings of a route -/
def crs (C : Cm) (r : Int) : List Int := if 0 ≤ r then (match C.rs[r.toNat]? with | none => [] | some q => crsT q.path C.cr C.cr.length) else []
theorem crs_neg {C : Cm} {r : Int} (h : ¬ 0 ≤ r) : crs C r = [] := by unfold crs; rw [if_neg h]
theorem crs_far {C : Cm} {r : Int} (h : 0 ≤ r) (h2 : ¬ r < C.rs.length) : crs C r = [] := by
  unfold crs
  rw [if_pos h, List.getElem?_eq_none (by omega)]
theorem crs_at {C : Cm} {j : Nat} (h : j < C.rs.length) : crs C (j : Int) = crsT C.rs[j].path C.cr C.cr.length := by
  unfold crs
  rw [if_pos (by omega), show ((j : Int)).toNat = j by omega, List.getElem?_eq_getElem h]
/-- a row of numbers of the call's own -/
def Nms (w0 : Nat) (l : List Int) (w : World) (v : Value) : Prop := ∃ A c, v = .slice A l.length c ∧ w.ownsRow w0 3 1 (.slice A l.length c) l.length (l.map (Value.int .i64))
theorem Nms.nil (w0 : Nat) (w : World) : Nms w0 [] w (.slice none 0 0) := ⟨none, 0, rfl, World.ownsRow_nil w w0 _ 1⟩
theorem Nms.fr {w0 : Nat} {l : List Int} {w w1 : World} {v : Value} (h : Nms w0 l w v) (f : Fr (fun _ => False) w w1) : Nms w0 l w1 v := by
  obtain ⟨A, c, rfl, o⟩ := h
  exact ⟨A, c, rfl, wide_fr o f fun _ _ => id⟩
def NmsE (w0 : Nat) (l : List Int) (w : World) (e : Ending) (w' : World) : Prop := ∃ v, e = .returned v ∧ Nms w0 l w' v ∧ Fr (fun _ => False) w w'

set_option maxHeartbeats 8000000 in
set_option maxRecDepth 100000 in
theorem crossings_any {C : Cm} (r : Int) (w : World) (hC : C.Ok w) : Calls Tryz.prog 151 #[C.val, .int .i64 r] w (NmsE w.heap.size (crs C r) w) := by
  have KH := hasr_any C.A5 C.rs.length C.c5 r
  have f0 := (Fr.refl (fun _ => False) w).alloc (.cells C.arr 30)
  have ib := Is.new w 30 C.arr
  unfold Cm.val
  unfold Cm.arr at *
  by_cases h0 : 0 ≤ r
  · by_cases h1 : r < C.rs.length
    · rw [decide_eq_true h0, decide_eq_true h1] at KH
      obtain ⟨j, hj⟩ : ∃ j : Nat, r = (j : Int) := ⟨r.toNat, by omega⟩
      subst hj
      have hjl : j < C.rs.length := by omega
      have hN := Lib.hid (crs_at (C := C) hjl)
      have hr := hC.each _ (List.getElem_mem hjl)
      obtain ⟨g, o, e5, s0, s1, s2, s3, s4, s5⟩ := rd_ro hC.rts hjl
      have hl5 := hC.l5
      have hk5 := hC.k5
      have hl4 := hC.l4
      have hk4 := hC.k4
      have hb4 := hC.b4
      have hcr := hC.crs
      generalize C.rs[j] = q at *
      obtain ⟨A1, c1, l, A2, c2, js, A3, c3, sg, A4, c4, cr, A5, c5, rs, tm⟩ := C
      simp only at *
      subst e5
      generalize crs _ (j : Int) = T at *
      have KP := fun x W (f : Fr (fun _ => False) w W) => passes_any (q := q) x W (hr.fr f)
      have HF0 := Lib.hid f0
      have HG : Hid (g < w.heap.size) := Lib.hid (World.block_lt_of_cell? _ _ s3)
      have HSS := Lib.hid (show _ ∧ _ ∧ _ ∧ _ ∧ _ ∧ _ from ⟨s0, s1, s2, s3, s4, s5⟩)
      have HIB := Lib.hid ib
      unfold Ro.val at KP
      obtain ⟨en, ex, a1, q1, path, a2, q2, flank, a3, q3, over, sh⟩ := q
      simp only at *
      have HK := Lib.hid KP
      clear hC h0 h1 hr KP
      have b4 := ib.cell 4
      have b3 := ib.cell 3
      clear ib f0 s0 s1 s2 s3 s4 s5
      go_enter Tryz.func151, Tryz.ntmps151
      go_wp2_with fail
      refine (KH _).mono ?_
      clear KH
      rintro e w1 ⟨rfl, rfl⟩
      go_wp2_with fail
      generalize w.alloc _ = w1 at *
      generalize hzb : w.heap.size = zb at *
      have HZ := Lib.hid hzb
      clear hzb b4 b3
      go_loopg [5, 6, 7, 16] cr.length (fun gh v5 v6 v7 i wr => ∃ k : Nat, k ≤ cr.length ∧ gh = cr.length - k ∧ i = .int .i64 (k : Nat) ∧ Nms zb (crsT path cr k) wr v5 ∧ Fr (fun _ => False) w wr ∧ Is wr zb 30 #[.slice A1 l.length c1, .slice A2 js.length c2, .slice A3 sg.length c3, .slice A4 cr.length c4, .slice (some ⟨g, o, none⟩) rs.length c5, .int .i64 tm.age, .int .i64 tm.brake, .int .i64 tm.hold, .int .i64 tm.budget])
      case atStart => exact ⟨0, Nat.zero_le _, rfl, rfl, Nms.nil _ _, HF0.out, HIB.out⟩
      case round =>
        clear HF0 HIB
        obtain ⟨k, hk, rfl, rfl, ⟨A, c, rfl, hown⟩, f, ib⟩ := hrel
        by_cases hlt : k < cr.length
        · obtain ⟨gp, op, ea, p0⟩ := rd_int (hcr.fr f fun _ _ => id) hlt
          subst ea
          have hsn := crsT_snoc path cr k hlt
          have hle := crsT_le path cr k
          generalize cr[k] = x at *
          have hgl : g < w.heap.size := by have := HG.out; have := HZ.out; omega
          have x0 := (f.cell (p := ⟨g, o + j * 6, none⟩) hgl id).trans HSS.out.1
          have x1 := (f.cell (p := ⟨g, o + j * 6 + 1, none⟩) hgl id).trans HSS.out.2.1
          have x2 := (f.cell (p := ⟨g, o + j * 6 + 2, none⟩) hgl id).trans HSS.out.2.2.1
          have x3 := (f.cell (p := ⟨g, o + j * 6 + 3, none⟩) hgl id).trans HSS.out.2.2.2.1
          have x4 := (f.cell (p := ⟨g, o + j * 6 + 4, none⟩) hgl id).trans HSS.out.2.2.2.2.1
          have x5 := (f.cell (p := ⟨g, o + j * 6 + 5, none⟩) hgl id).trans HSS.out.2.2.2.2.2
          have b4 := ib.cell 4
          have KX := HK.out x wr f
          have HSN := Lib.hid hsn
          clear hsn hgl
          generalize crsT path cr k = L at *
          cases hq : path.any (inB x)
          · rw [hq] at KX
            have HM : Hid (crsT path cr (k + 1) = L) := Lib.hid (by rw [HSN.out, hq]; simp)
            clear hq HSN
            go_wp2_with fail
            refine KX.mono ?_
            clear KX
            rintro e w2 ⟨rfl, f2⟩
            have HN : Hid (Nms zb (crsT path cr (k + 1)) w2 (.slice A L.length c)) := Lib.hid (by rw [HM.out]; exact ⟨A, c, rfl, wide_fr hown f2 fun _ _ => id⟩)
            replace ib := ib.fr f2 id
            replace f := fr_nil f f2
            clear p0 x0 x1 x2 x3 x4 x5 b4 hown f2 HM
            go_wp2_with fail
            go_roundg (cr.length - (k + 1))
            case measure => omega
            case rel => exact ⟨k + 1, by omega, rfl, by go_num, HN.out, f, ib⟩
          · rw [hq] at KX
            have HM : Hid (crsT path cr (k + 1) = L ++ [(k : Int)]) := Lib.hid (by rw [HSN.out, hq]; simp)
            clear hq HSN
            go_wp2_with fail
            refine KX.mono ?_
            clear KX
            rintro e w2 ⟨rfl, f2⟩
            have hown2 := wide_fr hown f2 fun _ _ => id
            replace ib := ib.fr f2 id
            replace f := fr_nil f f2
            clear p0 x0 x1 x2 x3 x4 x5 b4 hown f2
            obtain ⟨i0, hi0, hz0, hz1, hz2⟩ := info_parts Tryz.infoI
            have fb := (Fr.refl (fun _ => False) w2).alloc (.cells #[.int .i64 (k : Int)] 3)
            have hfs := f.size
            go_wp2_with (at_builtin; refine wpList_append_wide _ rfl (.tmp 28) (.tmp 30) 25 rfl zb 3 i0 _ 1 8 Tryz.underlying25 hi0 hz0 hz1 hz2 rfl (by decide) (.slice A L.length c) L.length (L.map (Value.int .i64)) rfl (hown2.alloc _) (some ⟨w2.heap.size, 0, none⟩) 1 1 [.int .i64 (k : Int)] rfl rfl (lit_rd w2 _ _) (by simp [Value.oneCell']) (by unfold maxLen; omega) (by omega) (by have := HZ.out; have := fb.size; omega) ?_)
            intro v5 w5 hown5 hg5 _
            have hne := wide_is_ne (hown2.alloc (.cells #[.int .i64 (k : Int)] 3)) (ib.fr fb id) (by decide)
            have hlo := World.ownsRow.lt (hown2.alloc (.cells #[.int .i64 (k : Int)] 3))
            have ib5 := (ib.fr fb id).fr ((Fr.refl (fun q => (Value.slice A L.length c).ownBlock = some q) _).grown hg5 fun _ hq => .inl hq) hne
            have f5 : Fr (fun _ => False) w w5 := (fr_nil f fb).grown hg5 fun q hq => .inr (by have := (hlo q hq).1; have := HZ.out; omega)
            obtain ⟨A5, c5', rfl, _, _, _, _⟩ := wide_form hown5
            have HN : Hid (Nms zb (crsT path cr (k + 1)) w5 (.slice A5 (L.length + 1) c5')) := Lib.hid (by rw [HM.out]; exact ⟨A5, c5', by simp, by simp only [List.length_append, List.length_cons, List.length_nil, List.map_append, List.map_cons, List.map_nil]; exact hown5⟩)
            clear hown2 hown5 hg5 hne hlo HM f fb ib hi0 hz0 hz1 hz2
            go_wp2_with fail
            go_roundg (cr.length - (k + 1))
            case measure => omega
            case rel => exact ⟨k + 1, by omega, rfl, by go_num, HN.out, f5, ib5⟩
        · have hk' : k = cr.length := by omega
          have HN : Hid (Nms zb T wr (.slice A (crsT path cr k).length c)) := Lib.hid (by rw [hN.out, ← hk']; exact ⟨A, c, rfl, hown⟩)
          generalize crsT path cr k = L at *
          clear hown hk' ib
          go_wp2_with fail
          go_ret
          exact ⟨_, rfl, HN.out, f⟩
    · rw [decide_eq_true h0, decide_eq_false h1] at KH
      have HT := Lib.hid (crs_far (C := C) h0 h1)
      have HF0 := Lib.hid f0
      have b4 := ib.cell 4
      generalize crs C r = T at *
      clear h0 h1 f0 ib hC
      go_enter Tryz.func151, Tryz.ntmps151
      go_wp2_with fail
      refine (KH _).mono ?_
      clear KH
      rintro e w1 ⟨rfl, rfl⟩
      go_wp2_with fail
      go_ret
      exact ⟨_, rfl, by rw [HT.out]; exact Nms.nil _ _, HF0.out⟩
  · rw [decide_eq_false h0] at KH
    have HT := Lib.hid (crs_neg (C := C) h0)
    have HF0 := Lib.hid f0
    have b4 := ib.cell 4
    generalize crs C r = T at *
    clear h0 f0 ib hC
    go_enter Tryz.func151, Tryz.ntmps151
    go_wp2_with fail
    refine (KH _).mono ?_
    clear KH
    rintro e w1 ⟨rfl, rfl⟩
    go_wp2_with fail
    go_ret
    exact ⟨_, rfl, by rw [HT.out]; exact Nms.nil _ _, HF0.out⟩
end Go.Proofs.YtginfnbdnkgjbaaGreat.Mv


/- The walk of MoverSafe: whatever commands are given, cycle by cycle, however late they arrive within the age: where a truthful report proves the mover, the thing stands as commanded from then on. -/
import Derived.Test.YtbjbkaphigolnaaMsm
import Derived.Test.YtbjbkaphigolnaaMcyc
import Derived.Deep.CutRange
import Derived.Deep.LoopGhost
namespace Go.Proofs.Ytbjbkaphigolnaa.Mv
open Go.RowKit

/-- what lies there between the cycles -/
structure Sf (w wr : World) (bt bm n : Nat) (x : Th) (mc mo : Int) (cs : List Int) (R : Option Addr) (c : Nat) : Prop where
  f : Fr (fun _ => False) w wr
  t : Tg wr bt x
  m : Is wr bm 23 #[.int .i64 mc, .int .i64 mo]
  r : wr.ownsRow w.heap.size 3 1 (.slice R n c) n (cs.map (Value.int .i64))
theorem Sf.fr {w wr w1 : World} {bt bm n : Nat} {x : Th} {mc mo : Int} {cs : List Int} {R : Option Addr} {c : Nat} (h : Sf w wr bt bm n x mc mo cs R c) (f : Fr (fun _ => False) wr w1) : Sf w w1 bt bm n x mc mo cs R c :=
  ⟨h.f.trans f (fun _ _ h => h), h.t.fr f id, h.m.fr f id, own_fr h.r f (fun _ _ => id)⟩
/-- the thing changes -/
theorem Sf.tg {w wr w1 : World} {bt bm n : Nat} {x y : Th} {mc mo : Int} {cs : List Int} {R : Option Addr} {c : Nat} (h : Sf w wr bt bm n x mc mo cs R c) (hbt : w.heap.size ≤ bt) (hne : bt ≠ bm) (f : Fr (fun k => k = bt) wr w1) (t : Tg w1 bt y) : Sf w w1 bt bm n y mc mo cs R c :=
  ⟨h.f.trans (f.mono (S' := fun k => w.heap.size ≤ k) fun k _ e => by rw [e]; exact hbt) (fun k hk e => by omega), t, h.m.fr f fun e => hne e.symm, own_fr h.r f fun k hk e => wide_is_ne h.r h.t (by decide) (by rw [← e]; exact hk)⟩
/-- the mover changes -/
theorem Sf.mv {w wr w1 : World} {bt bm n : Nat} {x : Th} {mc mo mc' mo' : Int} {cs : List Int} {R : Option Addr} {c : Nat} (h : Sf w wr bt bm n x mc mo cs R c) (hbm : w.heap.size ≤ bm) (hne : bt ≠ bm) (f : Fr (fun k => k = bm) wr w1) (m : Is w1 bm 23 #[.int .i64 mc', .int .i64 mo']) : Sf w w1 bt bm n x mc' mo' cs R c :=
  ⟨h.f.trans (f.mono (S' := fun k => w.heap.size ≤ k) fun k _ e => by rw [e]; exact hbm) (fun k hk e => by omega), h.t.fr f fun e => hne e, m, own_fr h.r f fun k hk e => wide_is_ne h.r h.m (by decide) (by rw [← e]; exact hk)⟩

def Ex2 (w w' : World) (P : Prop) : Prop := w = w' ∧ P

set_option maxHeartbeats 8000000 in
set_option maxRecDepth 100000 in
theorem safe_walk (age first : Int) (Ar : Option Addr) (cp : Nat) (l : List Cy) (w : World) (h : Cycs w Ar l) (hl : l.length * 40 ≤ 140737488351232) :
    Calls Try.prog 5 #[.int .i64 age, .int .i64 first, .slice Ar l.length cp] w fun e w' => e = .returned (.bool true) ∧ Below w.heap.size w w' := by
  have KL := lives_any
  have KS := start_any (-1)
  obtain ⟨a, ha, ha6⟩ := umod age 6 (by decide) (by decide)
  obtain ⟨p, hp, hp2⟩ := umod first 2 (by decide) (by decide)
  simp only [show ((6 : Nat) : Int) = 6 from rfl] at ha
  simp only [show ((2 : Nat) : Int) = 2 from rfl] at hp
  have HA := Lib.hid ha
  have HP := Lib.hid hp
  clear ha hp
  go_enter Try.func5, Try.ntmps5
  go_wp2_with fail
  refine (KL _).mono ?_
  clear KL
  rintro e w1 ⟨rfl, f1⟩
  go_upto_region 5 with fail
  simp only [HA.out, HP.out]
  clear HA HP
  have e1 : wrap64 (1 + (a : Int)) = ((a + 1 : Nat) : Int) := by rw [IntWalk.wrap64_in _ ⟨by omega, by omega⟩]; omega
  have e2 : wrap64 (1 + (p : Int)) = ((p + 1 : Nat) : Int) := by rw [IntWalk.wrap64_in _ ⟨by omega, by omega⟩]; omega
  simp only [e1, e2]
  clear e1 e2
  obtain ⟨A, hA⟩ : ∃ A, A = a + 1 := ⟨_, rfl⟩
  obtain ⟨fs, hfs⟩ : ∃ fs, fs = p + 1 := ⟨_, rfl⟩
  have hA7 : A ≤ 7 := by omega
  have hA1 : 1 ≤ A := by omega
  have hf0 : ((fs : Nat) : Int) ≠ 0 := by omega
  rw [← hA, ← hfs]
  have HI0 := Lib.hid (Inv.start A fs hf0)
  clear hA hfs hf0 ha6 hp2
  have hz1 := f1.size
  have ft : Tg (w1.alloc (.cells #[.int .i64 fs, .int .i64 fs, .int .i64 (-1)] 53)) w1.heap.size ⟨fs, fs, -1⟩ := Is.new w1 _ _
  replace f1 := f1.alloc (.cells #[.int .i64 fs, .int .i64 fs, .int .i64 (-1)] 53)
  go_upto_region 6 with fail
  have hz2 : w1.heap.size < (w1.alloc (.cells #[.int .i64 fs, .int .i64 fs, .int .i64 (-1)] 53)).heap.size := by simp
  generalize w1.alloc _ = w2 at *
  generalize w1.heap.size = bt at *
  go_wp2_with fail
  refine (KS _).mono ?_
  clear KS
  rintro e w3 ⟨rfl, f3⟩
  have hz3 := f3.size
  replace ft := ft.fr f3 id
  replace f3 := f1.trans f3 (fun _ _ h => h)
  clear f1
  have fm := Is.new w3 23 #[.int .i64 0, .int .i64 (-1)]
  replace ft := Is.alloc ft (.cells #[.int .i64 0, .int .i64 (-1)] 23)
  replace f3 := f3.alloc (.cells #[.int .i64 0, .int .i64 (-1)] 23)
  go_upto_region 7 with fail
  generalize w3.alloc _ = w4 at *
  obtain ⟨bm, hbm⟩ : ∃ bm, bm = w3.heap.size := ⟨_, rfl⟩
  rw [← hbm] at fm hz3 ⊢
  have hbt2 : w.heap.size ≤ bt := hz1
  have hbm2 : w.heap.size ≤ bm := by omega
  have hne : bt ≠ bm := by omega
  have S0 : Sf w w4 bt bm 0 ⟨fs, fs, -1⟩ 0 (-1) [] none 0 := ⟨f3, ft, fm, World.ownsRow_nil w4 _ _ 1⟩
  clear f3 ft fm hz1 hz2 hz3 hbm
  go_wp2_with fail
  go_loopg [9, 10, 38] l.length (fun g v9 v10 i wr => ∃ (n : Nat) (x : Th) (mc mo : Int) (cs : List Int) (pr : Bool) (R : Option Addr) (c : Nat), n ≤ l.length ∧ g = l.length - n ∧ i = .int .i64 (n : Nat) ∧ v9 = .slice R n c ∧ v10 = .bool pr ∧ Sf w wr bt bm n x mc mo cs R c ∧ Inv n n A x mc mo cs pr)
  case atStart => exact ⟨0, _, _, _, _, _, _, _, Nat.zero_le _, rfl, rfl, rfl, rfl, S0, HI0.out⟩
  case round =>
    clear S0 HI0
    obtain ⟨n, x, mc, mo, cs, pr, R, c, hn, rfl, rfl, rfl, rfl, S, I⟩ := hrel
    have HI := Lib.hid I
    clear I
    by_cases hlt : n < l.length
    · obtain ⟨g, o, rfl, hg, hcl⟩ := h.1 (by omega)
      obtain ⟨hp0, hp1, hp2, hp3⟩ := hcl n hlt
      have hok := h.2 l[n] (List.getElem_mem hlt)
      have x0 := (S.f.cell (p := ⟨g, o + n * 4, none⟩) hg id).trans hp0
      have x1 := (S.f.cell (p := ⟨g, o + n * 4 + 1, none⟩) hg id).trans hp1
      have x2 := (S.f.cell (p := ⟨g, o + n * 4 + 2, none⟩) hg id).trans hp2
      have x3 := (S.f.cell (p := ⟨g, o + n * 4 + 3, none⟩) hg id).trans hp3
      generalize l[n] = q at *
      obtain ⟨qc, qA, qk, ql, qs, qlk⟩ := q
      simp only at x0 x1 x2 x3
      obtain ⟨hrd, hcp, hmx⟩ := hok
      simp only at hrd hcp hmx
      unfold maxLen at hmx
      have HH := Lib.hid h
      clear h hp0 hp1 hp2 hp3 hcl
      obtain ⟨u, hu, hu3⟩ := umod qc 3 (by decide) (by decide)
      simp only [show ((3 : Nat) : Int) = 3 from rfl] at hu
      have HU := Lib.hid hu
      clear hu
      have ib := Is.new wr 55 #[.int .i64 qc, .slice qA ql.length qk, .bool qs, .bool qlk]
      have S1 := S.fr ((Fr.refl (fun _ => False) wr).alloc (.cells #[.int .i64 qc, .slice qA ql.length qk, .bool qs, .bool qlk] 55))
      have hws := S.f.size
      have hbt : bt < wr.heap.size := S.t.lt
      have hbm3 : bm < wr.heap.size := S.m.lt
      go_upto_region 13 with fail
      simp only [HU.out]
      clear HU x0 x1 x2 x3 S
      generalize wr.alloc _ = W at *
      generalize wr.heap.size = bc at *
      go_upto_if 49 with (fail)
      have hnc1 : bc ≠ bt := by omega
      have hnc2 : bc ≠ bm := by omega
      clear hbm3
      have m0 := S1.m.cell 0
      have m1 := S1.m.cell 1
      have b2 : W.cell? ⟨bc, 2, none⟩ = some (.bool qs) := ib.cell 2
      go_cut [9, 10, 11, 12, 13, 14, 15, 38] from 38 to 129 (fun s9 s10 s11 s12 s13 s14 s15 s38 wx => s9 = .slice R n c ∧ s10 = .bool pr ∧ s11 = .int .i64 (n : Nat) ∧ s12 = .pointer (some ⟨bc, 0, none⟩) ∧ s38 = .int .i64 (n : Nat) ∧ (∃ cm : Int, s13 = .int .i64 cm) ∧ wx = W)
      case first =>
        by_cases hu0 : u = 0
        · subst hu0
          go_wp2_with fail
          go_meet
          exact ⟨rfl, rfl, rfl, rfl, rfl, ⟨_, rfl⟩, rfl⟩
        · have d0 : ((u : Int) == 0) = false := by simpa using hu0
          go_wp2_with fail
          go_meet
          exact ⟨rfl, rfl, rfl, rfl, rfl, ⟨_, rfl⟩, rfl⟩
      case rest =>
        obtain ⟨rfl, rfl, rfl, rfl, rfl, ⟨cm, rfl⟩, hW⟩ := hcut
        replace hW := hW.symm
        subst hW
        go_upto_if 55 with (fail)
        clear m0 m1 b2
        obtain ⟨y, hy⟩ : ∃ y, y = x.stand qs := ⟨_, rfl⟩
        have HI2 : Hid (Inv n n A y mc mo cs pr) := Lib.hid (by rw [hy]; exact HI.out.stand qs)
        have HY := Lib.hid hy
        clear hy
        go_cut [9, 10, 11, 12, 13, 14, 15, 38] from 38 to 129 (fun s9 s10 s11 s12 s13 s14 s15 s38 wx => s9 = .slice R n c ∧ s10 = .bool pr ∧ s11 = .int .i64 (n : Nat) ∧ s12 = .pointer (some ⟨bc, 0, none⟩) ∧ s38 = .int .i64 (n : Nat) ∧ s13 = .int .i64 cm ∧ s14 = .int .i64 mc ∧ Sf w wx bt bm n y mc mo cs R c ∧ Is wx bc 55 #[.int .i64 qc, .slice qA ql.length qk, .bool qs, .bool qlk])
        case first =>
          cases qs with
          | false =>
            have HS : Hid (Sf w W bt bm n y mc mo cs R c) := Lib.hid (by rw [HY.out]; exact S1)
            go_wp2_with fail
            go_meet
            exact ⟨rfl, rfl, rfl, rfl, rfl, rfl, rfl, HS.out, ib⟩
          | true =>
            obtain ⟨t0, t1, t2⟩ := tg_cells S1.t
            obtain ⟨z0, z1, z2⟩ := tg_frozen S1.t
            have ft : Fr (fun k => k = bt) W (W.setCell ⟨bt, 0, none⟩ (.int .i64 x.to)) := (Fr.refl (fun k => k = bt) W).setCell (p := ⟨bt, 0, none⟩) (.inl rfl) _
            have tt : Tg (W.setCell ⟨bt, 0, none⟩ (.int .i64 x.to)) bt y := by
              have := Is.set S1.t 0 (.int .i64 x.to)
              rw [HY.out]
              simpa [Th.ar, Tg, Th.stand] using this
            have HS := Lib.hid (S1.tg hbt2 hne ft tt)
            have HB := Lib.hid (ib.fr ft hnc1)
            clear S1 ib tt ft
            go_wp2_with fail
            go_meet
            exact ⟨rfl, rfl, rfl, rfl, rfl, rfl, rfl, HS.out, HB.out⟩
        case rest =>
          clear S1 ib HY HI
          obtain ⟨rfl, rfl, rfl, rfl, rfl, rfl, rfl, S1, ib⟩ := hcut
          have HI := HI2
          clear HI2
          obtain ⟨t0, t1, t2⟩ := tg_cells S1.t
          go_upto_region 19 with fail
          go_cut [9, 10, 11, 12, 13, 14, 15, 38, 72] from 38 to 129 (fun s9 s10 s11 s12 s13 s14 s15 s38 s72 wx => s9 = .slice R n c ∧ s10 = .bool pr ∧ s11 = .int .i64 (n : Nat) ∧ s12 = .pointer (some ⟨bc, 0, none⟩) ∧ s38 = .int .i64 (n : Nat) ∧ s13 = .int .i64 cm ∧ s14 = .int .i64 mc ∧ s15 = .int .i64 y.pos ∧ s72 = .bool false ∧ Sf w wx bt bm n y mc mo cs R c ∧ Is wx bc 55 #[.int .i64 qc, .slice qA ql.length qk, .bool qs, .bool qlk])
          case first =>
            have hpr := HI.out.prv
            cases pr with
            | false =>
              clear hpr
              go_wp2_with fail
              go_meet
              exact ⟨rfl, rfl, rfl, rfl, rfl, rfl, rfl, rfl, rfl, S1, ib⟩
            | true =>
              have e := (hpr rfl).1
              have eb : (y.pos == mc) = true := by simpa using e
              have eb2 : (y.pos != mc) = false := by simpa using e
              clear hpr e
              go_wp2_with fail
              go_meet
              exact ⟨rfl, rfl, rfl, rfl, rfl, rfl, rfl, rfl, rfl, S1, ib⟩
          case rest =>
            clear S1 ib t0 t1 t2
            obtain ⟨rfl, rfl, rfl, rfl, rfl, rfl, rfl, rfl, rfl, S1, ib⟩ := hcut
            go_upto_region 21 with fail
            have b3 := ib.cell 3
            have m0 := S1.m.cell 0
            have m1 := S1.m.cell 1
            go_cut [9, 10, 11, 12, 13, 14, 15, 38, 82] from 38 to 129 (fun s9 s10 s11 s12 s13 s14 s15 s38 s82 wx => s9 = .slice R n c ∧ s10 = .bool pr ∧ s11 = .int .i64 (n : Nat) ∧ s12 = .pointer (some ⟨bc, 0, none⟩) ∧ s38 = .int .i64 (n : Nat) ∧ s13 = .int .i64 cm ∧ s14 = .int .i64 mc ∧ s15 = .int .i64 y.pos ∧ (∃ pp : Bool, s82 = .bool pp ∧ (pp = true → pv mc mo y.pos n true A = true)) ∧ Sf w wx bt bm n y mc mo cs R c ∧ Is wx bc 55 #[.int .i64 qc, .slice qA ql.length qk, .bool qs, .bool qlk])
            case first =>
              cases qlk with
              | false =>
                go_wp2_with fail
                go_meet
                exact ⟨rfl, rfl, rfl, rfl, rfl, rfl, rfl, rfl, ⟨false, rfl, fun e => by cases e⟩, S1, ib⟩
              | true =>
                have K := proven_any mc mo y.pos n true A
                go_wp2_with fail
                refine (K _).mono ?_
                clear K
                rintro e w6 ⟨rfl, f6⟩
                have HS := Lib.hid (S1.fr f6)
                have HB := Lib.hid (ib.fr f6 id)
                clear S1 ib f6 m0 m1 b3
                go_wp2_with fail
                go_meet
                exact ⟨rfl, rfl, rfl, rfl, rfl, rfl, rfl, rfl, ⟨_, rfl, fun e => e⟩, HS.out, HB.out⟩
            case rest =>
              clear S1 ib b3 m0 m1
              obtain ⟨rfl, rfl, rfl, rfl, rfl, rfl, rfl, rfl, ⟨pp, rfl, hpp⟩, S1, ib⟩ := hcut
              obtain ⟨W2, hW2⟩ : ∃ W2, W2 = wc := ⟨_, rfl⟩
              subst hW2
              go_upto_if 82 with (fail)
              have m0 := S1.m.cell 0
              go_cut [9, 10, 11, 12, 13, 14, 15, 38] from 38 to 129 (fun s9 s10 s11 s12 s13 s14 s15 s38 wx => s9 = .slice R n c ∧ s11 = .int .i64 (n : Nat) ∧ s12 = .pointer (some ⟨bc, 0, none⟩) ∧ s38 = .int .i64 (n : Nat) ∧ s13 = .int .i64 cm ∧ s14 = .int .i64 mc ∧ Ex2 W2 wx (∃ pr' : Bool, s10 = .bool pr' ∧ Inv n n A y mc mo cs pr'))
              case first =>
                cases pp with
                | false =>
                  go_wp2_with fail
                  go_meet
                  exact ⟨rfl, rfl, rfl, rfl, rfl, rfl, rfl, _, rfl, HI.out⟩
                | true =>
                  obtain ⟨he, hi⟩ := HI.out.prove (by omega) hA7 (hpp rfl)
                  have HJ := Lib.hid hi
                  have eb : (y.pos == mc) = true := by simpa using he.symm
                  have eb2 : (y.pos != mc) = false := by simpa using he.symm
                  clear hi he hpp
                  go_wp2_with fail
                  go_meet
                  exact ⟨rfl, rfl, rfl, rfl, rfl, rfl, rfl, _, rfl, HJ.out⟩
              case rest =>
                clear HI hpp m0
                obtain ⟨rfl, rfl, rfl, rfl, rfl, rfl, hw, pr', rfl, hi⟩ := hcut
                replace hw := hw.symm
                subst hw
                have HI := Lib.hid hi
                clear hi
                have m0 := S1.m.cell 0
                have m1 := S1.m.cell 1
                have KC := command_any mc mo n cm
                go_wp2_with fail
                refine (KC _).mono ?_
                clear KC
                rintro e w6 ⟨rfl, f6⟩
                replace S1 := S1.fr f6
                replace ib := ib.fr f6 id
                clear f6 m0 m1
                have hx : ∃ (mo' : Int) (pr1 : Bool), (if mc = cm then mo else (n : Int)) = mo' ∧ Inv (n + 1) n A y cm mo' (cs ++ [cm]) pr1 ∧ ((cm == mc) = true ∧ pr1 = pr' ∨ (cm == mc) = false ∧ pr1 = false) := by
                  by_cases hcc : mc = cm
                  · subst hcc
                    exact ⟨_, _, rfl, by rw [if_pos rfl]; exact HI.out.same, .inl ⟨by simp, rfl⟩⟩
                  · exact ⟨_, _, rfl, by rw [if_neg hcc]; exact HI.out.turn cm, .inr ⟨by simpa using fun e => hcc e.symm, rfl⟩⟩
                obtain ⟨mo', pr1, hmo, hi1, hpr1⟩ := hx
                rw [hmo]
                clear hmo HI
                have HI := Lib.hid hi1
                clear hi1
                have z0 := S1.m.frozen 0
                have z1 := S1.m.frozen 1
                have m0 : w6.cell? ⟨bm, 0, none⟩ = some (.int .i64 mc) := S1.m.cell 0
                have m1 : w6.cell? ⟨bm, 1, none⟩ = some (.int .i64 mo) := S1.m.cell 1
                have fm : Fr (fun k => k = bm) w6 ((w6.setCell ⟨bm, 0, none⟩ (.int .i64 cm)).setCell ⟨bm, 1, none⟩ (.int .i64 mo')) := ((Fr.refl (fun k => k = bm) w6).setCell (p := ⟨bm, 0, none⟩) (.inl rfl) _).setCell (p := ⟨bm, 1, none⟩) (.inl rfl) _
                have im : Is ((w6.setCell ⟨bm, 0, none⟩ (.int .i64 cm)).setCell ⟨bm, 1, none⟩ (.int .i64 mo')) bm 23 #[.int .i64 cm, .int .i64 mo'] := by
                  have := (Is.set S1.m 0 (.int .i64 cm)).set 1 (.int .i64 mo')
                  simpa using this
                have S2 := S1.mv hbm2 hne fm im
                have ib2 := ib.fr fm hnc2
                clear S1 ib fm im
                go_upto_region 26 with fail
                clear z0 z1 m0 m1
                generalize (w6.setCell ⟨bm, 0, none⟩ (.int .i64 cm)).setCell ⟨bm, 1, none⟩ (.int .i64 mo') = W3 at *
                have m0 : W3.cell? ⟨bm, 0, none⟩ = some (.int .i64 cm) := S2.m.cell 0
                go_upto_if 94 with (fail)
                go_cut [9, 10, 11, 12, 13, 14, 15, 38] from 38 to 129 (fun s9 s10 s11 s12 s13 s14 s15 s38 wx => s9 = .slice R n c ∧ s11 = .int .i64 (n : Nat) ∧ s12 = .pointer (some ⟨bc, 0, none⟩) ∧ s38 = .int .i64 (n : Nat) ∧ s10 = .bool pr1 ∧ wx = W3)
                case first =>
                  rcases hpr1 with ⟨e1, rfl⟩ | ⟨e1, rfl⟩
                  · have e2 : (cm != mc) = false := by simpa using e1
                    go_wp2_with fail
                    go_meet
                    exact ⟨rfl, rfl, rfl, rfl, rfl, rfl⟩
                  · have e2 : (cm != mc) = true := by simpa using e1
                    go_wp2_with fail
                    go_meet
                    exact ⟨rfl, rfl, rfl, rfl, rfl, rfl⟩
                case rest =>
                  obtain ⟨rfl, rfl, rfl, rfl, rfl, hw⟩ := hcut
                  replace hw := hw.symm
                  subst hw
                  clear hpr1
                  obtain ⟨i1, hif, hzz0, hzz1, hzz2⟩ := info_parts Try.infoI
                  have hs3 := S2.f.size
                  have f4 := (Fr.refl (fun _ => False) W3).alloc (.cells #[.int .i64 cm] 3)
                  have S3 := S2.fr f4
                  have ib3 := ib2.fr f4 id
                  have r1 := Rd.one W3 (.int .i64 cm) 3
                  have hs4 := S3.f.size
                  go_wp2_with (at_builtin; refine wpList_append_rd _ rfl (.tmp 95) (.tmp 98) 35 rfl w.heap.size 3 i1 (.int .i64 0) 8 Try.underlying35 hif hzz0 hzz1 hzz2 rfl _ n (cs.map (Value.int .i64)) rfl S3.r (some ⟨W3.heap.size, 0, none⟩) 1 1 [.int .i64 cm] rfl rfl r1 (by intro u hu; simp at hu; subst hu; rfl) (by unfold maxLen; omega) (by omega) hs4 ?_)
                  intro v5 w5 hown5 hg5
                  have fg : Fr (fun k => (Value.slice R n c).ownBlock = some k) _ w5 := (Fr.refl (fun k => (Value.slice R n c).ownBlock = some k) _).grown hg5 fun _ hk => .inl hk
                  have ib5 := ib3.fr fg fun e => wide_is_ne S3.r ib3 (by decide) e
                  obtain ⟨R5, c5, rfl, hc5, hR5⟩ := own_form hown5
                  have S5 : Sf w w5 bt bm (n + 1) y cm mo' (cs ++ [cm]) R5 c5 := ⟨own_step S3.f S3.r hg5, S3.t.fr fg fun e => wide_is_ne S3.r S3.t (by decide) e, S3.m.fr fg fun e => wide_is_ne S3.r S3.m (by decide) e, by rw [List.map_append]; exact hown5⟩
                  obtain ⟨g5, rfl, hg5'⟩ := hR5 (by omega)
                  clear hown5 hg5 fg S3 ib3 r1 f4 ib2 S2 hs3 hs4 hif hzz0 hzz1 hzz2 m0 hg5' hR5
                  have b1 : w5.cell? ⟨bc, 1, none⟩ = some (.slice qA ql.length qk) := ib5.cell 1
                  go_wp2_with fail
                  clear b1
                  have hcl : (n + 1 : Nat) ≤ c5 := hc5
                  go_loopg [103] ql.length (fun g j wr => ∃ (k : Nat) (y : Th), k ≤ ql.length ∧ g = ql.length - k ∧ j = .int .i64 (k : Nat) ∧ Sf w wr bt bm (n + 1) y cm mo' (cs ++ [cm]) (some ⟨g5, 0, none⟩) c5 ∧ Inv (n + 1) n A y cm mo' (cs ++ [cm]) pr1)
                  case atStart => exact ⟨0, y, Nat.zero_le _, rfl, rfl, S5, HI.out⟩
                  case round =>
                    clear S5 HI ib5
                    obtain ⟨k, y, hk, rfl, rfl, S, I⟩ := hrel
                    have HI := Lib.hid I
                    clear I
                    by_cases hkl : k < ql.length
                    · obtain ⟨gq, oq, hAq, hgq, hcq⟩ := (hrd.fr S.f fun _ _ => id) (by rw [List.length_map]; omega)
                      subst hAq
                      have x0 := hcq k (.int .i64 ql[k]) (by rw [List.getElem?_map, List.getElem?_eq_getElem hkl]; rfl)
                      generalize ql[k] = e at *
                      obtain ⟨d, hd, hdA⟩ := umod e (A + 1) (by omega) (by omega)
                      rw [show ((A + 1 : Nat) : Int) = (A : Int) + 1 by omega] at hd
                      have HD := Lib.hid hd
                      clear hd hcq
                      go_upto_region 33 with fail
                      simp only [HD.out]
                      clear HD x0
                      by_cases hdn : d ≤ n
                      · obtain ⟨z, hz⟩ : ∃ z : Nat, z = n - d := ⟨_, rfl⟩
                        have hzi : (n : Int) - (d : Int) = (z : Int) := by omega
                        have hzn : z < n + 1 := by omega
                        have hlen := HI.out.len
                        have hcv := List.getElem?_eq_getElem (l := cs ++ [cm]) (i := z) (by omega)
                        generalize (cs ++ [cm])[z]'(by omega) = cv at *
                        have x1 := (own_rd S.r).at0 z (.int .i64 cv) (by rw [List.getElem?_map, hcv]; rfl)
                        have HJ : Hid (Inv (n + 1) n A (y.arr (z : Int) cv) cm mo' (cs ++ [cm]) pr1) := Lib.hid (HI.out.arr (d := d) (by omega) hdn (by rw [← hz]; exact hcv) _)
                        have K := arrives_any S.t (z : Int) cv
                        clear hz hlen hcv HI
                        go_wp2_with fail
                        refine K.mono ?_
                        clear K
                        rintro e' w7 ⟨rfl, t7, f7⟩
                        have S7 := S.tg hbt2 hne f7 t7
                        clear S t7 f7 x1
                        go_wp2_with fail
                        go_roundg (ql.length - (k + 1))
                        case measure => omega
                        case rel => exact ⟨k + 1, _, by omega, rfl, by go_num, S7, HJ.out⟩
                      · go_wp2_with fail
                        go_roundg (ql.length - (k + 1))
                        case measure => omega
                        case rel => exact ⟨k + 1, y, by omega, rfl, by go_num, S, HI.out⟩
                    · go_wp2_with fail
                      go_roundg (l.length - (n + 1))
                      case measure => omega
                      case rel => exact ⟨n + 1, y, cm, mo', cs ++ [cm], pr1, _, c5, by omega, rfl, by go_num, rfl, rfl, S, HI.out.next⟩
    · go_wp2_with fail
      go_ret
      exact ⟨rfl, S.f.toBelow0⟩
end Go.Proofs.Ytbjbkaphigolnaa.Mv

/- The walk of LinkTakes: a receiver takes, refuses and counts what the document's own does. -/
import Derived.Test.YtcencpkoimahbaaLives9
import Derived.Test.YtcencpkoimahbaaRtake
import Derived.Test.YtcencpkoimahbaaOpen9
namespace Go.Proofs.Ytcencpkoimahbaa
open Go.RowKit Li

theorem same_call {f : FuncId} {args : Array Value} {v : Value} {w : World} (h : Calls Try.prog f args w fun e w' => e = .returned v ∧ w' = w) : Calls Try.prog f args w fun e w' => e = .returned v ∧ w = w' :=
  h.mono fun _ _ k => ⟨k.1, k.2.symm⟩
theorem drewn_call {f : FuncId} {args : Array Value} {v : Value} {w : World} (h : Calls Try.prog f args w fun e w' => e = .returned v ∧ ∃ n, w' = w.drewN n) : Calls Try.prog f args w fun e w' => e = .returned v ∧ Fr (fun _ => False) w w' :=
  h.mono fun _ _ k => ⟨k.1, by obtain ⟨n, e⟩ := k.2; subst e; exact (Fr.refl _ w).drewN n⟩

set_option maxRecDepth 100000 in
set_option maxHeartbeats 4000000 in
theorem takes_walk (peer age : Int) (A : Option Addr) (c : Nat) (l : List Cm) (w : World) (hl : Comes w A l) (hn : l.length * 24 ≤ 140737488351232) (hsz : ∀ p ∈ l, p.x.size ≤ 140737488351232) (hnow : ∀ p ∈ l, p.now ≤ 9223372036854775807) :
    Calls Try.prog 4 #[.int .i64 peer, .int .i64 age, .slice A l.length c] w fun e w' => e = .returned (.bool true) ∧ Below w.heap.size w w' := by
  have KL := lives_any w
  have K1 := fun W => newrecv_any peer age W
  have K2 := fun W => rnew_any peer age W w.heap.size
  go_enter Try.func4, Try.ntmps4
  go_wp2_with fail
  refine KL.mono ?_
  rintro e w1 ⟨rfl, f1⟩
  have K1' := K1 w1
  obtain ⟨rb, hrb⟩ : ∃ rb, rb = w1.heap.size := ⟨_, rfl⟩
  rw [← hrb] at K1'
  have HR : Hid (w.heap.size ≤ rb) := Lib.hid (by have := f1.size; omega)
  have HF1 := Lib.hid f1
  clear hrb KL f1
  go_wp2_with fail
  refine K1'.mono ?_
  rintro e w2 ⟨rfl, i2, f2⟩
  have HF2 := Lib.hid (HF1.out.trans f2 fun _ _ h => h)
  have K2' := K2 w2
  obtain ⟨mb, hmb⟩ : ∃ mb, mb = w2.heap.size := ⟨_, rfl⟩
  rw [← hmb] at K2'
  have HM : Hid (w.heap.size ≤ mb ∧ rb < mb) := Lib.hid ⟨by have := HF2.out.size; omega, by have := Is.lt i2; omega⟩
  have HI2 := Lib.hid i2
  clear K1' HF1 f2 i2 hmb K2
  go_wp2_with fail
  refine K2'.mono ?_
  rintro e w3 ⟨rfl, i3, f3⟩
  have HF3 := Lib.hid (HF2.out.trans f3 fun _ _ h => h)
  have K3' := K1 w3
  obtain ⟨ob, hob⟩ : ∃ ob, ob = w3.heap.size := ⟨_, rfl⟩
  rw [← hob] at K3'
  have HO : Hid (w.heap.size ≤ ob ∧ rb < ob ∧ mb < ob) := Lib.hid (by
    obtain ⟨ns, v, _, _, j3, _⟩ := i3
    have h1 := j3.lt
    have h2 := HM.out
    exact ⟨by omega, by omega, by omega⟩)
  have HR3 := Lib.hid (HI2.out.fr f3 id)
  have HM3 := Lib.hid i3
  clear K2' HF2 f3 i3 hob K1 HI2
  go_wp2_with fail
  refine K3'.mono ?_
  rintro e w4 ⟨rfl, i4, f4⟩
  have HF4 := Lib.hid (HF3.out.trans f4 fun _ _ h => h)
  have HR4 := Lib.hid (HR3.out.fr f4 id)
  have HM4 := Lib.hid (HM3.out.fr0 f4)
  have HO4 := Lib.hid i4
  have HL := Lib.hid hl
  clear K3' HF3 f4 i4 HR3 HM3 hl
  go_wp2_with fail
  go_loopw [29] (fun i wr => ∃ (k : Nat) (r : R), k ≤ l.length ∧ i = .int .i64 (k : Nat) ∧ Rv wr rb r ∧ Mv wr w.heap.size mb k r ∧ Rv wr ob (R.new peer age) ∧ Fr (fun _ => False) w wr) (fun i _ => l.length - (intOf i).toNat)
  case atStart => exact ⟨0, _, Nat.zero_le _, rfl, HR4.out, HM4.out, HO4.out, HF4.out⟩
  case round =>
    clear HR4 HM4 HO4 HF4
    obtain ⟨k, r, hk, rfl, hr, hm, ho, fr⟩ := hrel
    by_cases hlt : k < l.length
    · obtain ⟨g, o, rfl, hg, hc⟩ := HL.out.fr fr (fun _ _ => id) (by omega)
      obtain ⟨c0, c1⟩ := hc k hlt
      have hx := hsz l[k] (List.getElem_mem hlt)
      have hw := hnow l[k] (List.getElem_mem hlt)
      have hlen : l.length ≤ 140737488351232 := by omega
      have hkn : k ≤ 5864062014805 := by omega
      generalize l[k] = x at *
      obtain ⟨now, x⟩ := x
      simp only at c0 c1 hx hw
      have hlost := hm.lost
      have KT := fun W (h : Rv W rb r) => take_any h now x hw hlost.1 (by omega)
      have KM := fun W (h : Mv W w.heap.size mb k r) => rtake_any h HM.out.1 hkn now x hw (by omega)
      generalize r.take now (readL (bytesOf x)) = q at *
      obtain ⟨y, e0, r'⟩ := q
      simp only at KT KM
      have qy : ((⟨y.toArray⟩ : ByteArray).toList == (⟨y.toArray⟩ : ByteArray).toList) = true := beq_self_eq_true _
      have fa := (Fr.refl (fun _ => False) wr).alloc (.cells #[.int .i64 now, .string x] 39)
      have ia : Is (wr.alloc (.cells #[.int .i64 now, .string x] 39)) wr.heap.size 39 #[.int .i64 now, .string x] := Is.new wr _ _
      obtain ⟨cb, hcb⟩ : ∃ cb, cb = wr.heap.size := ⟨_, rfl⟩
      rw [← hcb] at ia
      have HC : Hid (w.heap.size ≤ cb ∧ rb < cb ∧ ob < cb ∧ mb < cb) := Lib.hid ⟨by have := fr.size; omega, by have := Is.lt hr; omega, by have := Is.lt ho; omega, by obtain ⟨_, _, _, _, j, _⟩ := hm; have := j.lt; omega⟩
      have HFA := Lib.hid (fr.trans fa fun _ _ h => h)
      have HIA := Lib.hid ia
      have HRA := Lib.hid (hr.fr fa id)
      have HMA := Lib.hid (hm.fr0 fa)
      have HOA := Lib.hid (ho.fr fa id)
      have HT := Lib.hid KT
      have HMM := Lib.hid KM
      have HW := Lib.hid hw
      clear KT KM fa ia hc fr hr hm ho hlost hx hw
      go_wp2_with fail
      rw [← hcb]
      clear hcb c0 c1
      generalize wr.alloc (.cells #[.int .i64 now, .string x] 39) = wa at *
      refine (HT.out _ HRA.out).mono ?_
      rintro e w5 ⟨rfl, r5, f5⟩
      have HF5 := Lib.hid (HFA.out.trans f5 fun j hj h => by have := HR.out; omega)
      have i5 := HIA.out.fr f5 (by have := HC.out; omega)
      have HO5 := Lib.hid (HOA.out.fr f5 (by have := HO.out; omega))
      have HM5 := Lib.hid (HMA.out.fr f5 (by have := HM.out; omega) fun k hk => ⟨_, _, hk ▸ HRA.out, by decide⟩)
      have HR5 := Lib.hid r5
      have d0 : w5.cell? ⟨cb, 0, none⟩ = some (.int .i64 now) := i5.cell 0
      have d1 : w5.cell? ⟨cb, 1, none⟩ = some (.string x) := i5.cell 1
      have HI5 := Lib.hid i5
      clear HT HFA HIA HRA HMA HOA f5 i5 r5
      go_wp2_with fail
      refine (HMM.out _ HM5.out).mono ?_
      rintro e w6 ⟨rfl, m6, f6, kp⟩
      have HF6 := Lib.hid (HF5.out.trans f6 fun j hj h => by omega)
      have HI6 := Lib.hid (kp cb _ _ HI5.out (by decide) (by have := HC.out; omega))
      have HO6 := Lib.hid (kp ob _ _ HO5.out (by decide) (by have := HO.out; omega))
      have HR6 := Lib.hid (kp rb _ _ HR5.out (by decide) (by have := HM.out; omega))
      have HM6 := Lib.hid m6
      clear HMM HF5 HI5 HO5 HR5 HM5 f6 kp m6 d0 d1
      go_wp2_with fail
      have xm : ∀ u : Fro w6, u.w.cell? ⟨mb, 2, none⟩ = some (.int .i64 r'.last) := by
        obtain ⟨ns, v, _, _, j6, _⟩ := HM6.out
        exact cell_fro (j6.cell 2)
      have xc : ∀ u : Fro w6, u.w.cell? ⟨cb, 0, none⟩ = some (.int .i64 now) := cell_fro (HI6.out.cell 0)
      have QL := fun u : Fro w6 => same_call (last_any (HR6.out.fr u.f id))
      have QA := fun u : Fro w6 => drewn_call (alive_any (HR6.out.fr u.f id) now HW.out)
      have QB := fun u : Fro w6 => ralive_any (HM6.out.fr0 u.f) now HW.out
      have QC := fun u : Fro w6 => same_call (lostr_any (HR6.out.fr u.f id))
      have QD := fun u : Fro w6 => same_call (rlostr_any (HM6.out.fr0 u.f) (by omega))
      generalize r'.last = la at xm QL
      generalize r'.alive now = al at QA QB
      generalize r'.lost = lo at QC QD
      refine region_fro (by kernel_rfl) (by kernel_rfl) ?_
      repeat (go_big_quiet_step (first
        | (go_at_call 19; with_reducible exact call_fro_same (QL _))
        | (go_at_call 20; with_reducible exact call_fro (QA _))
        | (go_at_call 21; with_reducible exact call_fro (QB _))
        | (go_at_call 22; with_reducible exact call_fro_same (QC _))
        | (go_at_call 23; with_reducible exact call_fro_same (QD _))))
      refine wpQuiet_nil ?_
      rintro w7 ⟨⟨w9, f7⟩, hww⟩
      replace hww : w7 = w9 := hww
      subst hww
      have HR7 := Lib.hid (HR6.out.fr f7 id)
      have HM7 := Lib.hid (HM6.out.fr0 f7)
      have HO7 := Lib.hid (HO6.out.fr f7 id)
      have HF7 := Lib.hid (HF6.out.trans f7 fun _ _ h => h)
      clear xm xc QL QA QB QC QD f7 HR6 HM6 HO6 HF6 HI6
      go_wp2_with fail
      go_roundw
      case rel => exact ⟨k + 1, r', by omega, by go_num, HR7.out, HM7.out, HO7.out, HF7.out⟩
      case measure => simp [intOf]; omega
    · have hk' : k = l.length := by omega
      have KZ := last_any ho
      have KY := lostr_any ho
      rw [show (R.new peer age).lost = 0 from rfl] at KY
      rw [show (R.new peer age).last = -1 from rfl] at KZ
      have HF := Lib.hid fr
      clear hr hm ho fr
      go_wp2_with fail
      refine KZ.mono ?_
      rintro e w5 ⟨rfl, rfl⟩
      go_wp2_with fail
      refine KY.mono ?_
      rintro e w5 ⟨rfl, rfl⟩
      go_wp2_with fail
      go_ret
      exact ⟨rfl, HF.out.toBelow0⟩
end Go.Proofs.Ytcencpkoimahbaa

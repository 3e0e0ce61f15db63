/- The walk of LinkSends: a sender's telegrams. -/
import Derived.Test.YtcencpkoimahbaaLives9
import Derived.Test.YtcencpkoimahbaaRtmake
import Derived.Test.YtcencpkoimahbaaOpen9
namespace Go.Proofs.Ytcencpkoimahbaa
open Go.RowKit Li

set_option maxRecDepth 100000 in
set_option maxHeartbeats 2000000 in
theorem sends_walk (peer : Int) (A : Option Addr) (c : Nat) (l : List Cm) (w : World) (hl : Comes w A l) (hn : l.length ≤ 140737488351232) :
    Calls Try.prog 6 #[.int .i64 peer, .slice A l.length c] w fun e w' => e = .returned (.bool true) ∧ Below w.heap.size w w' := by
  have KL := lives_any w
  have K1 := fun W => newsend_any peer W
  go_enter Try.func6, Try.ntmps6
  go_wp2_with fail
  refine KL.mono ?_
  rintro e w1 ⟨rfl, f1⟩
  have K1' := K1 w1
  obtain ⟨sb, hsb⟩ : ∃ sb, sb = w1.heap.size := ⟨_, rfl⟩
  rw [← hsb] at K1'
  have HS : Hid (w.heap.size ≤ sb) := Lib.hid (by have := f1.size; omega)
  have HF1 := Lib.hid f1
  clear hsb K1 KL f1
  go_wp2_with fail
  refine K1'.mono ?_
  rintro e w2 ⟨rfl, i2, f2⟩
  have HF2 := Lib.hid (HF1.out.trans f2 fun _ _ h => h)
  have HI2 := Lib.hid i2
  have HL := Lib.hid hl
  clear K1' HF1 f2 i2 hl
  go_wp2_with fail
  go_loopw [6, 19] (fun num i wr => ∃ (k : Nat) (used : Int), k ≤ l.length ∧ i = .int .i64 (k : Nat) ∧ num = .int .i64 (Sq.ofZ (used + 1)) ∧ Sd wr sb used peer ∧ Fr (fun _ => False) w wr) (fun _ i _ => l.length - (intOf i).toNat)
  case atStart => exact ⟨0, 0, Nat.zero_le _, rfl, rfl, HI2.out, HF2.out⟩
  case round =>
    clear HI2 HF2
    obtain ⟨k, used, hk, rfl, rfl, hs, fr⟩ := hrel
    by_cases hlt : k < l.length
    · obtain ⟨g, o, rfl, hg, hc⟩ := HL.out.fr fr (fun _ _ => id) (by omega)
      obtain ⟨c0, c1⟩ := hc k hlt
      have hlen : l.length ≤ 140737488351232 := hn
      generalize l[k] = x at *
      obtain ⟨now, x⟩ := x
      simp only at c0 c1
      have KS := fun W (f : Fr (fun _ => False) wr W) => send_any (hs.fr f id) now x
      have KM := fun W => rmake_any peer (Sq.ofZ (used + 1)) now x W
      have hu : useZ used peer now (bytesOf x) = if (makeL peer (Sq.ofZ (used + 1)) now (bytesOf x)).2 = 0 then Sq.ofZ (used + 1) else used := rfl
      have hbd := Sq.of_bd (used + 1)
      generalize useZ used peer now (bytesOf x) = u at *
      generalize makeL peer (Sq.ofZ (used + 1)) now (bytesOf x) = y at *
      obtain ⟨t, e0⟩ := y
      simp only at KS KM hu
      have fa := (Fr.refl (fun _ => False) wr).alloc (.cells #[.int .i64 now, .string x] 39)
      have KS' := KS _ fa
      have ia : Is (wr.alloc (.cells #[.int .i64 now, .string x] 39)) wr.heap.size 39 #[.int .i64 now, .string x] := Is.new wr _ _
      obtain ⟨cb, hcb⟩ : ∃ cb, cb = wr.heap.size := ⟨_, rfl⟩
      rw [← hcb] at ia
      have hsc : sb < cb := by have := Is.lt hs; omega
      have HC : Hid (w.heap.size ≤ cb ∧ sb < cb) := Lib.hid ⟨by have := fr.size; omega, hsc⟩
      have HFA := Lib.hid (fr.trans fa fun _ _ h => h)
      have HIA := Lib.hid ia
      have qt : ((⟨t.toArray⟩ : ByteArray).toList == (⟨t.toArray⟩ : ByteArray).toList) = true := beq_self_eq_true _
      have HU := Lib.hid hu
      generalize hm : Sq.ofZ (used + 1) = m at *
      have HM := Lib.hid hm
      clear KS fa ia hsc hu hm hc fr hs
      go_wp2_with fail
      rw [← hcb]
      clear hcb c0 c1
      generalize wr.alloc (.cells #[.int .i64 now, .string x] 39) = wa at *
      refine KS'.mono ?_
      rintro e w3 ⟨rfl, i3, f3⟩
      have HF3 := Lib.hid (HFA.out.trans f3 fun j hj h => by have := HS.out; omega)
      have HI3 := Lib.hid i3
      have i3c := HIA.out.fr f3 (by have := HC.out; omega)
      have d0 : w3.cell? ⟨cb, 0, none⟩ = some (.int .i64 now) := i3c.cell 0
      have d1 : w3.cell? ⟨cb, 1, none⟩ = some (.string x) := i3c.cell 1
      clear KS' HFA HIA f3 i3 i3c
      go_wp2_with fail
      refine (KM _).mono ?_
      rintro e w4 ⟨rfl, f4⟩
      have HF4 := Lib.hid (HF3.out.trans f4 fun _ _ h => h)
      have HI4 := Lib.hid (HI3.out.fr f4 id)
      clear KM HF3 HI3 f4 d0 d1
      by_cases he : e0 = 0
      · subst he
        go_wp2_with fail
        go_roundw
        case rel => exact ⟨k + 1, u, by omega, by go_num, by have := HU.out; simp at this; rw [this]; rfl, HI4.out, HF4.out⟩
        case measure => simp [intOf]; omega
      · have heb : (e0 == 0) = false := by simpa using he
        have HUU : Hid (u = used) := Lib.hid (by rw [HU.out, if_neg he])
        go_wp2_with fail
        go_roundw
        case rel => exact ⟨k + 1, u, by omega, by go_num, by rw [HUU.out, HM.out], HI4.out, HF4.out⟩
        case measure => simp [intOf]; omega
    · go_wp2_with fail
      go_ret
      exact ⟨rfl, fr.toBelow0⟩
end Go.Proofs.Ytcencpkoimahbaa

/- The walk of LinkFresh: what a receiver takes is fresh, and taken once. -/
import Derived.Test.YtcencpkoimahbaaLives9
import Derived.Test.YtcencpkoimahbaaRtread
import Derived.Test.YtcencpkoimahbaaOpen9
import Derived.Maps.OwnOps
import Derived.Deep.Cut
import Derived.Maps.Views
namespace Go.Proofs.Ytcencpkoimahbaa
open Go.RowKit Li Go.Maps

theorem lawT : Keyed Try.prog 9 := string_keyed Try.underlying9
theorem zeroT (w : World) : (zeroValue 3).run Try.prog w = .ok (.int .i64 0) w := by kernel_rfl

/-- what taking leads to -/
theorem take_cases (r : R) (now : Int) (t : T) : ((r.take now t).2.1 ≠ 0 ∧ (r.take now t).2.2 = r) ∨
    ((r.take now t).2.1 = 0 ∧ t.e = 0 ∧ t.p = r.peer ∧ t.s ≤ now ∧ now - t.s ≤ r.age ∧ r.last < t.s ∧ (r.take now t).2.2.last = t.s ∧ (r.take now t).2.2.peer = r.peer ∧ (r.take now t).2.2.age = r.age ∧ (r.lost ≤ (r.take now t).2.2.lost ∧ (r.take now t).2.2.lost ≤ r.lost + 32767)) := by
  by_cases he : t.e = 0
  · by_cases hr : r.refuse now t.p t.s = 0
    · refine .inr ?_
      rw [take_ok he hr]
      unfold R.refuse at hr
      by_cases h1 : t.p ≠ r.peer
      · rw [if_pos h1] at hr; cases hr
      · rw [if_neg h1] at hr
        by_cases h2 : now < t.s
        · rw [if_pos h2] at hr; cases hr
        · rw [if_neg h2] at hr
          by_cases h3 : r.age < now - t.s
          · rw [if_pos h3] at hr; cases hr
          · rw [if_neg h3] at hr
            by_cases h4 : t.s ≤ r.last
            · rw [if_pos h4] at hr; cases hr
            · have hl := lostStep_bd r.newest t.n
              refine ⟨rfl, he, Decidable.not_not.1 h1, by omega, by omega, by omega, ?_, ?_, ?_, ?_⟩ <;> unfold R.add <;> simp only <;> split <;> simp only <;> omega
    · exact .inl (by rw [take_no he hr]; exact ⟨hr, rfl⟩)
  · exact .inl (by rw [take_bad he]; exact ⟨he, rfl⟩)
theorem bytes_ne {x y : ByteArray} (h : bytesOf x ≠ bytesOf y) : Lit.string x.data.toList ≠ Lit.string y.data.toList := by
  intro e
  injection e with e
  exact h (by unfold bytesOf; exact e)

/-- nothing that is newer is told as taken -/
def Newer (last : Int) (D : DataW Unit) : Prop := IsMap D ∧ ∀ x : ByteArray, last < (readL (bytesOf x)).s → D.atKey (.string x.data.toList) (.lit (.int .i64 0)) = .lit (.int .i64 0)
theorem Newer.put {last s : Int} {D : DataW Unit} {x : ByteArray} {d : DataW Unit} (h : Newer last D) (hs : (readL (bytesOf x)).s = s) (hl : last < s) : Newer s (D.put (.string x.data.toList) d) := by
  refine ⟨h.1.put _ _, fun y hy => ?_⟩
  rw [atKey_put_other (bytes_ne fun e => by rw [e, hs] at hy; omega)]
  exact h.2 y (by omega)

theorem lit_num {a c : Int} (h : (DataW.lit (.int .i64 a) : DataW Unit) = .lit (.int .i64 c)) : c = a := by cases h; rfl
theorem owns_fr {P : Program} {w w1 : World} {k : TypeId} {R : Value → Option (DataW Unit × List MemPlace)} {b n : Nat} {D : DataW Unit} {S : Nat → Prop} (h : w.ownsMap P k R b n D) (f : Fr S w w1) (hn : ¬ S b) : w1.ownsMap P k R b n D := by
  obtain ⟨es, clock, hb, r⟩ := h
  exact ⟨es, clock, (f.block b (lt_of_block hb) hn).trans hb, r⟩

set_option maxRecDepth 100000 in
set_option maxHeartbeats 4000000 in
theorem fresh_walk (peer age : Int) (A : Option Addr) (c : Nat) (l : List Cm) (w : World) (hl : Comes w A l) (hn : l.length * 24 ≤ 140737488351232) (hsz : ∀ p ∈ l, p.x.size ≤ 140737488351232) (hnow : ∀ p ∈ l, p.now ≤ 9223372036854775807) :
    Calls Try.prog 5 #[.int .i64 peer, .int .i64 age, .slice A l.length c] w fun e w' => e = .returned (.bool true) ∧ Below w.heap.size w w' := by
  have KL := lives_any w
  have K1 := fun W => newrecv_any peer age W
  have hmm := @run_makeMap Try.prog
  go_enter Try.func5, Try.ntmps5
  go_wp2_with fail
  refine KL.mono ?_
  rintro e w1 ⟨rfl, f1⟩
  have K1' := K1 w1
  obtain ⟨rb, hrb⟩ : ∃ rb, rb = w1.heap.size := ⟨_, rfl⟩
  rw [← hrb] at K1'
  have HR : Hid (w.heap.size ≤ rb) := Lib.hid (by have := f1.size; omega)
  have HF1 := Lib.hid f1
  clear hrb KL f1
  go_wp2_with fail
  refine K1'.mono ?_
  rintro e w2 ⟨rfl, i2, f2⟩
  have HF2 := Lib.hid (HF1.out.trans f2 fun _ _ h => h)
  obtain ⟨mb, hmb⟩ : ∃ mb, mb = w2.heap.size := ⟨_, rfl⟩
  have HM : Hid (w.heap.size ≤ mb ∧ rb < mb) := Lib.hid ⟨by have := HF2.out.size; omega, by have := Is.lt i2; omega⟩
  have HI2 := Lib.hid i2
  have HL := Lib.hid hl
  clear K1' HF1 f2 i2 K1 hl
  go_wp2_with fail
  have o3 : (w2.alloc (.map #[] 0)).ownsMap Try.prog 9 (plainElem (H := Unit) Try.prog 3) w2.heap.size 0 (.map []) := World.ownsMap_made _ _ _ _
  have HO3 := Lib.hid o3
  have HF3 := Lib.hid (HF2.out.alloc (.map #[] 0))
  have HI3 := Lib.hid (Is.alloc HI2.out (.map #[] 0))
  clear o3 hmm HF2 HI2
  rw [← hmb] at HO3 ⊢
  clear hmb
  generalize w2.alloc (.map #[] 0) = w3 at *
  go_loopw [8, 24] (fun lv i wr => ∃ (k : Nat) (r : R) (D : DataW Unit), k ≤ l.length ∧ i = .int .i64 (k : Nat) ∧ lv = .int .i64 r.last ∧ Rv wr rb r ∧ (r.peer = peer ∧ r.age = age ∧ 0 ≤ r.lost ∧ r.lost ≤ (k : Int) * 32767) ∧ wr.ownsMap Try.prog 9 (plainElem (H := Unit) Try.prog 3) mb k D ∧ Newer r.last D ∧ Fr (fun _ => False) w wr) (fun _ i _ => l.length - (intOf i).toNat)
  case atStart => exact ⟨0, R.new peer age, .map [], Nat.zero_le _, rfl, rfl, HI3.out, ⟨rfl, rfl, Int.le_refl _, by simp [R.new]⟩, HO3.out, ⟨isMap_empty, fun _ _ => rfl⟩, HF3.out⟩
  case round =>
    clear HO3 HF3 HI3
    obtain ⟨k, r, D, hk, rfl, rfl, hr, hrr, hown, hnew, fr⟩ := hrel
    by_cases hlt : k < l.length
    · obtain ⟨g, o, rfl, hg, hc⟩ := HL.out.fr fr (fun _ _ => id) (by omega)
      obtain ⟨c0, c1⟩ := hc k hlt
      have hx := hsz l[k] (List.getElem_mem hlt)
      have hw := hnow l[k] (List.getElem_mem hlt)
      have hlen : l.length ≤ 140737488351232 := by omega
      have hkn : k ≤ 5864062014805 := by omega
      generalize l[k] = x at *
      obtain ⟨now, x⟩ := x
      simp only at c0 c1 hx hw
      have KT := fun W (h : Rv W rb r) => take_any h now x hw hrr.2.2.1 (by have := hrr.2.2.2; omega)
      have KR := fun W => rread_any x (by omega) W
      have hcs := take_cases r now (readL (bytesOf x))
      have hbd := read_bd (l := bytesOf x)
      generalize ht : readL (bytesOf x) = t at *
      generalize r.take now t = q at *
      obtain ⟨y, e0, r'⟩ := q
      simp only at KT hcs
      simp only [saidV] at KR
      have fa := (Fr.refl (fun _ => False) wr).alloc (.cells #[.int .i64 now, .string x] 39)
      have ia : Is (wr.alloc (.cells #[.int .i64 now, .string x] 39)) wr.heap.size 39 #[.int .i64 now, .string x] := Is.new wr _ _
      obtain ⟨cb, hcb⟩ : ∃ cb, cb = wr.heap.size := ⟨_, rfl⟩
      rw [← hcb] at ia
      have HC : Hid (w.heap.size ≤ cb ∧ rb < cb ∧ mb < cb) := Lib.hid ⟨by have := fr.size; omega, by have := Is.lt hr; omega, by have := hown.lt; omega⟩
      have HFA := Lib.hid (fr.trans fa fun _ _ h => h)
      have HIA := Lib.hid ia
      have HRA := Lib.hid (hr.fr fa id)
      have HOA := Lib.hid (hown.alloc (.cells #[.int .i64 now, .string x] 39))
      have HT := Lib.hid KT
      have HRR := Lib.hid hrr
      have HN := Lib.hid hnew
      have HX := Lib.hid hx
      rcases hcs with ⟨he, rfl⟩ | ⟨rfl, he, hp, hs1, hs2, hs3, hl1, hl2, hl3, hl4⟩
      · have heb : (e0 != 0) = true := by simpa using he
        clear KT fa ia hc fr hr hown hnew hrr hx hw he hbd KR ht
        go_wp2_with fail
        rw [← hcb]
        clear hcb c0 c1
        generalize wr.alloc (.cells #[.int .i64 now, .string x] 39) = wa at *
        refine (HT.out _ HRA.out).mono ?_
        rintro e w5 ⟨rfl, r5, f5⟩
        have HF5 := Lib.hid (HFA.out.trans f5 fun j hj h => by have := HR.out; omega)
        have HO5 := Lib.hid (owns_fr HOA.out f5 (by have := HM.out; omega))
        have HR5 := Lib.hid r5
        clear HT HFA HIA HRA HOA f5 r5
        go_wp2_with fail
        go_roundw
        case rel => exact ⟨k + 1, _, D, by omega, by go_num, rfl, HR5.out, ⟨HRR.out.1, HRR.out.2.1, HRR.out.2.2.1, by have := HRR.out.2.2.2; omega⟩, HO5.out.mono (by omega), HN.out, HF5.out⟩
        case measure => simp [intOf]; omega
      · obtain ⟨p, n, s, z, e1⟩ := t
        simp only at KR he hp hs1 hs2 hs3 hl1 hbd
        have hs0 := (hbd he).2.2.2.2.1
        subst he
        have hpp : p = peer := hp.trans hrr.1
        subst hpp
        have hag : now - s ≤ age := by rw [← hrr.2.1]; exact hs2
        have dw : IntKind.i64.wrap (now - s) = now - s := IntWalk.i64_in _ (by omega)
        have d1 : decide (now < s) = false := decide_eq_false (by omega)
        have d2 : decide (age < now - s) = false := decide_eq_false (by omega)
        have d3 : decide (s ≤ r.last) = false := decide_eq_false (by omega)
        have hxm : x.size ≤ maxLen := by unfold maxLen; omega
        have HZ := Lib.hid (hnew.2 x (by rw [ht]; exact hs3))
        have HNP := Lib.hid (fun d => hnew.put (x := x) (s := s) (d := d) (by rw [ht]) hs3)
        have HL1 := Lib.hid hl1
        have HLL := Lib.hid (And.intro hl2 (And.intro hl3 hl4))
        generalize r.last = la at *
        clear KT fa ia hc fr hr hown hnew hrr hx hw hbd hp hs1 hs2 hs3 hl1 hl2 hl3 hl4 ht hs0 hag
        go_wp2_with fail
        rw [← hcb]
        clear hcb c0 c1
        generalize wr.alloc (.cells #[.int .i64 now, .string x] 39) = wa at *
        refine (HT.out _ HRA.out).mono ?_
        rintro e w5 ⟨rfl, r5, f5⟩
        have HF5 := Lib.hid (HFA.out.trans f5 fun j hj h => by have := HR.out; omega)
        have HO5 := Lib.hid (owns_fr HOA.out f5 (by have := HM.out; omega))
        have i5 := HIA.out.fr f5 (by have := HC.out; omega)
        have HR5 := Lib.hid r5
        have HI5 := Lib.hid i5
        have d51 : w5.cell? ⟨cb, 1, none⟩ = some (.string x) := i5.cell 1
        clear HT HFA HIA HRA HOA f5 r5 i5
        go_wp2_with fail
        refine (KR _).mono ?_
        rintro e w6 ⟨rfl, f6⟩
        obtain ⟨gb, hgb⟩ : ∃ gb, gb = w6.heap.size := ⟨_, rfl⟩
        have f6a := f6.alloc (.cells #[.int .i64 p, .int .i64 n, .int .i64 s, .string ⟨z.toArray⟩] 23)
        have iS : Is (w6.alloc (.cells #[.int .i64 p, .int .i64 n, .int .i64 s, .string ⟨z.toArray⟩] 23)) w6.heap.size 23 #[.int .i64 p, .int .i64 n, .int .i64 s, .string ⟨z.toArray⟩] := Is.new w6 _ _
        rw [← hgb] at iS
        have HGB : Hid (cb < gb) := Lib.hid (by have h1 := HI5.out.lt; have h2 := f6.size; omega)
        have i6 := HI5.out.fr f6a id
        have HF6 := Lib.hid (HF5.out.trans f6a fun _ _ h => h)
        have HO6 := Lib.hid (owns_fr HO5.out f6a id)
        have HR6 := Lib.hid (HR5.out.fr f6a id)
        clear KR d51 f6 f6a HF5 HO5 HI5 HR5
        go_upto_region 12 with fail
        rw [← hgb]
        clear hgb
        generalize w6.alloc (.cells #[.int .i64 p, .int .i64 n, .int .i64 s, .string ⟨z.toArray⟩] 23) = w7 at *
        have d71 : w7.cell? ⟨cb, 1, none⟩ = some (.string x) := i6.cell 1
        have hown7 := HO6.out
        go_upto_region 13 with (first
          | (at_lookup; go_loud (refine wpList_lookup_own_int _ rfl _ _ 51 rfl 9 3 .i64 lawT Try.underlying51 Try.underlying3 (zeroT _) mb k D rfl hown7 _ _ rfl (WideMaps.keyOf_string_mk Try.underlying9 hxm) ?_; intro c hat hwc; rw [HZ.out] at hat; have hc0 := lit_num hat; subst hc0; clear hat hwc))
          | (at_mapUpdate; refine wpList_mapUpdate_own _ rfl _ _ _ 51 rfl 9 3 lawT Try.underlying51 _ mb k D rfl hown7 (by unfold maxLen; omega) _ _ _ rfl rfl (WideMaps.keyOf_string_mk Try.underlying9 hxm) _ [] (plainElem_int Try.underlying3 (by decide)) ?_; intro w8 hown8 hgrow8)
          | fail)
        have g8 : Fr (fun j => j = mb) w7 w8 := (Fr.refl _ _).grown hgrow8 fun j hj => by injection hj with hj; exact .inl hj.symm
        have HF8 := Lib.hid (HF6.out.trans g8 fun j hj h => by have := HM.out; omega)
        have HR8 := Lib.hid (HR6.out.fr g8 (by have := HM.out; omega))
        have j6 := i6.fr g8 (by have := HC.out; omega)
        have jS := iS.fr g8 (by have h1 := HC.out; have h2 := HGB.out; omega)
        have a0 : w8.cell? ⟨cb, 0, none⟩ = some (.int .i64 now) := j6.cell 0
        have a1 : w8.cell? ⟨cb, 1, none⟩ = some (.string x) := j6.cell 1
        have s0 : w8.cell? ⟨gb, 0, none⟩ = some (.int .i64 p) := jS.cell 0
        have s2 : w8.cell? ⟨gb, 2, none⟩ = some (.int .i64 s) := jS.cell 2
        have hown9 : w8.ownsMap Try.prog 9 (plainElem (H := Unit) Try.prog 3) mb (k + 1) (D.put (.string x.data.toList) (.lit (.int .i64 1))) := hown8
        obtain ⟨c8, hrun8, hat8, _⟩ := hown9.lookup_int lawT Try.underlying51 Try.underlying3 (zeroT _) (WideMaps.keyOf_string_mk Try.underlying9 hxm)
        rw [atKey_put_same HN.out.1 (by simp [WideAt.IsKeyLit])] at hat8
        have hc8 := lit_num hat8
        subst hc8
        have HO9 := Lib.hid hown9
        clear g8 hgrow8 HF6 HR6 i6 iS j6 jS hown8 hown9 hat8 d71 hown7 HO6 HZ
        go_wp2_with fail
        go_roundw
        case rel => exact ⟨k + 1, r', _, by omega, by go_num, by rw [HL1.out], HR8.out, ⟨HLL.out.1.trans HRR.out.1, HLL.out.2.1.trans HRR.out.2.1, by have h1 := HLL.out.2.2; have h2 := HRR.out.2.2.1; omega, by have h1 := HLL.out.2.2; have h2 := HRR.out.2.2.2; omega⟩, HO9.out, by rw [HL1.out]; exact HNP.out _, HF8.out⟩
        case measure => simp [intOf]; omega
    · have KZ := last_any hr
      have HF := Lib.hid fr
      generalize r.last = la at *
      clear hr hown fr hnew
      go_wp2_with fail
      refine KZ.mono ?_
      rintro e w5 ⟨rfl, rfl⟩
      go_wp2_with fail
      go_ret
      exact ⟨rfl, HF.out.toBelow0⟩
end Go.Proofs.Ytcencpkoimahbaa

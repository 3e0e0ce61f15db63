import Derived.Test.YtdoljggaoidljaaGreatNote
import Derived.Test.YtdoljggaoidljaaGreatFramed
import Derived.Test.YtdoljggaoidljaaGreatTop
import Derived.Test.YtdoljggaoidljaaGreatArm
import Derived.Test.YtdoljggaoidljaaGreatWide
import Derived.Deep.Cut
import Derived.Deep.RegionLaw
import Derived.Deep.RegionWith
/- The contracts of the document's own functions of records: Right, Safe, Ends. -/
namespace Go.Proofs.YtdoljggaoidljaaGreat
open Go.RowKit

theorem right_kind (k : Int) (x : ByteArray) (w : World) (hk : k ≠ 1 ∧ k ≠ 2) :
    Calls Tryz.prog 27 #[.int .i64 k, .string x] w fun e w' => e = .returned (.int .i64 27) ∧ w' = w := by
  obtain ⟨h1, h2⟩ := hk
  have q1 : (k != 1) = true := by simpa using h1
  have q2 : (k != 2) = true := by simpa using h2
  clear h1 h2
  go_enter Tryz.func27, Tryz.ntmps27
  go_wp2
  go_ret
  exact ⟨rfl, rfl⟩
theorem right_long (k : Int) (x : ByteArray) (w : World) (hk : k = 1 ∨ k = 2) (hx : 1000 < x.size) :
    Calls Tryz.prog 27 #[.int .i64 k, .string x] w fun e w' => e = .returned (.int .i64 2) ∧ w' = w := by
  have d1 : decide ((1000 : Int) < (x.size : Int)) = true := decide_eq_true (by omega)
  rcases hk with rfl | rfl
  all_goals
    go_enter Tryz.func27, Tryz.ntmps27
    go_wp2
    go_ret
    exact ⟨rfl, rfl⟩
theorem right_ok (k : Int) (x : ByteArray) (w : World) (hk : k = 1 ∨ k = 2) (hx : x.size ≤ 1000) :
    Calls Tryz.prog 27 #[.int .i64 k, .string x] w fun e w' => e = .returned (.int .i64 0) ∧ w' = w := by
  have d1 : decide ((1000 : Int) < (x.size : Int)) = false := decide_eq_false (by omega)
  rcases hk with rfl | rfl
  all_goals
    go_enter Tryz.func27, Tryz.ntmps27
    go_wp2
    go_ret
    exact ⟨rfl, rfl⟩

theorem lastSafe_none : ∀ (l : List Jo.Rc) (o : Option (List UInt8)), (∀ j (h : j < l.length), l[j].kind ≠ 1) → Jo.lastSafe o l = o
  | [], _, _ => rfl
  | r :: l, o, h => by
    have h0 : r.kind ≠ 1 := h 0 (by simp)
    show Jo.lastSafe (if r.kind = 1 then some r.text else o) l = o
    rw [if_neg h0]
    exact lastSafe_none l o fun j hj => h (j + 1) (by simpa using hj)
theorem lastSafe_hit {l : List Jo.Rc} {k : Nat} (hk : k < l.length) (h1 : l[k].kind = 1) (h : ∀ j (hj : j < l.length), k < j → l[j].kind ≠ 1) : Jo.lastSafe none l = some l[k].text := by
  have e : l = l.take k ++ (l[k] :: l.drop (k + 1)) := by rw [← List.drop_eq_getElem_cons hk, List.take_append_drop]
  have e2 : Jo.lastSafe none l = Jo.lastSafe none (l.take k ++ (l[k] :: l.drop (k + 1))) := congrArg _ e
  rw [e2, Jo.lastSafe_append]
  show Jo.lastSafe (if l[k].kind = 1 then some l[k].text else _) (l.drop (k + 1)) = _
  rw [if_pos h1]
  refine lastSafe_none _ _ fun j hj => ?_
  rw [List.getElem_drop]
  rw [List.length_drop] at hj
  exact h _ (by omega) (by omega)

set_option maxHeartbeats 1000000 in
theorem rsafe_any {w : World} {A : Option Addr} {n c : Nat} {l : List Jo.Rc} (h : Rd w A (recCells n l)) (hl : l.length ≤ 140737488355328) :
    Calls Tryz.prog 17 #[.slice A l.length c] w fun e w' => e = .returned (.tuple #[.string (safeT (Jo.lastSafe none l)), .bool (Jo.lastSafe none l).isSome]) ∧ w' = w := by
  have HH := Lib.hid h
  clear h
  go_enter Tryz.func17, Tryz.ntmps17
  go_wp2_with fail
  go_loop [4] (fun i => ∃ k : Nat, k ≤ l.length ∧ i = .int .i64 ((k : Int) - 1) ∧ ∀ j (hj : j < l.length), k ≤ j → l[j].kind ≠ 1) (fun i => (intOf i + 1).toNat)
  case atStart => exact ⟨l.length, Nat.le_refl _, rfl, fun j hj h => absurd h (by omega)⟩
  case round =>
    obtain ⟨k, hk, rfl, hno⟩ := hrel
    rcases Nat.eq_zero_or_pos k with rfl | hpos
    · have e := lastSafe_none l none fun j hj => hno j hj (Nat.zero_le _)
      have HE := Lib.hid e
      clear e hno
      go_wp2_with fail
      go_ret2
      rw [HE.out]
      exact ⟨rfl, rfl⟩
    · obtain ⟨m, rfl⟩ : ∃ m, k = m + 1 := ⟨k - 1, by omega⟩
      rw [show ((m + 1 : Nat) : Int) - 1 = (m : Int) by omega]
      obtain ⟨g, o, rfl, hg, c0, c1, c2⟩ := rd_rec HH.out (j := m) (by omega)
      clear c0
      have hlt : m < l.length := by omega
      by_cases hs : l[m].kind = 1
      · have e := lastSafe_hit hlt hs fun j hj hmj => hno j hj (by omega)
        have HE := Lib.hid e
        rw [hs] at c1
        generalize l[m].text = t at *
        clear e hno hs hk
        go_wp2_with fail
        go_ret2
        rw [HE.out]
        exact ⟨rfl, rfl⟩
      · have hb : (l[m].kind == 1) = false := by simpa using hs
        have HN : Hid (∀ j (hj : j < l.length), m ≤ j → l[j].kind ≠ 1) := Lib.hid fun j hj hmj => by
          rcases Nat.lt_or_ge m j with h | h
          · exact hno j hj (by omega)
          · have : j = m := by omega
            subst this
            exact hs
        generalize l[m].kind = q at *
        generalize l[m].text = t at *
        clear hno hs hk
        go_wp2_with fail
        go_round
        case rel => exact ⟨m, by omega, rfl, HN.out⟩
        case measure => simp [intOf]

set_option maxHeartbeats 2000000 in
theorem rends_any {w : World} {A B : Option Addr} {ca cb : Nat} {all : List Jo.Rc} {e k : Nat} (hA : Rd w A (recCells 1 all)) (he : e ≤ all.length) (hk : k ≤ e) (h16 : k = 0 ∨ k + 16 ≤ e) (hB : Rd w B (recCells (k + 1) ((all.take e).drop k))) (hl : all.length ≤ 140737488355328) :
    Calls Tryz.prog 39 #[.slice A all.length ca, .int .i64 (e : Int), .slice B ((all.take e).drop k).length cb] w fun r w' => r = .returned (.bool true) ∧ Fr (fun _ => False) w w' := by
  have hf : ((all.take e).drop k).length = e - k := by rw [List.length_drop, List.length_take]; omega
  obtain ⟨f, hfe⟩ : ∃ f, f = e - k := ⟨_, rfl⟩
  have hel : ∀ j (h : j < f), ((all.take e).drop k)[j]'(by omega) = all[k + j]'(by omega) := fun j h => by rw [List.getElem_drop, List.getElem_take]
  have HB : ∀ j (h : j < f) (h2 : k + j < all.length), ∃ g o, B = some ⟨g, o, none⟩ ∧ g < w.heap.size ∧ w.cell? ⟨g, o + j * 3, none⟩ = some (.int .i64 ((1 + (k + j) : Nat) : Int)) ∧ w.cell? ⟨g, o + j * 3 + 1, none⟩ = some (.int .i64 (all[k + j]'h2).kind) ∧ w.cell? ⟨g, o + j * 3 + 2, none⟩ = some (.string ⟨(all[k + j]'h2).text.toArray⟩) := fun j h h2 => by
    obtain ⟨g, o, h1, h2, h3, h4, h5⟩ := rd_rec hB (j := j) (by omega)
    rw [hel j h] at h4 h5
    exact ⟨g, o, h1, h2, by rw [h3]; congr 2; omega, h4, h5⟩
  rw [hf, ← hfe]
  have HHB := Lib.hid HB
  have HHA := Lib.hid hA
  obtain ⟨mn, hmin, hmn2⟩ : ∃ mn : Nat, min (e : Int) 16 = (mn : Int) ∧ mn ≤ f := ⟨min e 16, by omega, by omega⟩
  have d1 : decide ((e : Int) < 0) = false := decide_eq_false (by omega)
  have d2 : decide (all.length < e) = false := decide_eq_false (by omega)
  have d3 : decide (e < f) = false := decide_eq_false (by omega)
  have d4 : decide (f < mn) = false := decide_eq_false (by omega)
  have HFE := Lib.hid hfe
  clear HB hB hA hf hel h16 hmn2 hfe
  go_enter Tryz.func39, Tryz.ntmps39
  go_wp2_with fail
  clear hmin d1 d2 d3 d4
  go_loopw [31] (fun i wr => ∃ j : Nat, j ≤ f ∧ i = .int .i64 (j : Int) ∧ Fr (fun _ => False) w wr) (fun i _ => f - (intOf i).toNat)
  case atStart => exact ⟨0, Nat.zero_le _, rfl, Fr.refl _ _⟩
  case round =>
    obtain ⟨j, hj, rfl, fr⟩ := hrel
    by_cases hlt : j < f
    · have hfe := HFE.out
      have hfl : k + j < all.length := by omega
      obtain ⟨g, o, rfl, hg, b0, b1, b2⟩ := HHB.out j hlt hfl
      obtain ⟨g2, o2, rfl, hg2, a0, a1, a2⟩ := rd_rec HHA.out (j := k + j) hfl
      have x0 := cell_fro ((fr.cell (p := ⟨g, o + j * 3, none⟩) hg id).trans b0)
      have x1 := cell_fro ((fr.cell (p := ⟨g, o + j * 3 + 1, none⟩) hg id).trans b1)
      have x2 := cell_fro ((fr.cell (p := ⟨g, o + j * 3 + 2, none⟩) hg id).trans b2)
      have y0 := cell_fro ((fr.cell (p := ⟨g2, o2 + (k + j) * 3, none⟩) hg2 id).trans a0)
      have y1 := cell_fro ((fr.cell (p := ⟨g2, o2 + (k + j) * 3 + 1, none⟩) hg2 id).trans a1)
      have y2 := cell_fro ((fr.cell (p := ⟨g2, o2 + (k + j) * 3 + 2, none⟩) hg2 id).trans a2)
      generalize (all[k + j]'hfl).kind = q at *
      generalize (⟨(all[k + j]'hfl).text.toArray⟩ : ByteArray) = t at *
      have HF := Lib.hid fr
      have hq : IntKind.i64.wrap ((e : Int) - (f : Int)) = (k : Int) := IntWalk.i64_in _ (by omega) |>.trans (by omega)
      have hq2 : (e : Int) - (f : Int) = (k : Int) := by omega
      clear hfe b0 b1 b2 a0 a1 a2 fr
      go_wp2_with fail
      refine region_fro (by kernel_rfl) (by kernel_rfl) ?_
      repeat (go_big_quiet_step (fail))
      refine wpQuiet_nil ?_
      rintro w3 ⟨⟨w9, f3⟩, hww⟩
      replace hww : w3 = w9 := hww
      subst hww
      have HF3 := Lib.hid (HF.out.trans f3 fun _ _ h => h)
      clear HF f3 x0 x1 x2 y0 y1 y2 hq hq2
      go_wp2_with fail
      go_roundw
      case rel => exact ⟨j + 1, by omega, by go_num, HF3.out⟩
      case measure => simp [intOf]; omega
    · go_wp2_with fail
      go_ret
      exact ⟨rfl, fr⟩
end Go.Proofs.YtdoljggaoidljaaGreat
/- A script's journal ('life'): how it lies, and the contract of found. -/
namespace Go.Proofs.YtdoljggaoidljaaGreat
open Go.RowKit

/-- nothing of another type lies in a memory's foot -/
theorem is_off {w : World} {mb k : Nat} {r : Option Nat} {m : Mm} {t : TypeId} {cs : Array Value} (h : Mem w mb r m) (hup : m.down = false) (hi : Is w k t cs) (ht : t ≠ 62) : ¬ Foot mb r k := by
  rintro (e | e)
  · subst e
    obtain ⟨cs', h1, _⟩ := h.ex
    unfold Is at h1 hi
    rw [hi] at h1
    injection h1 with h1
    injection h1 with _ h1
    exact ht h1
  · have hc := h.cut hup
    rw [e] at hc
    obtain ⟨n, D, ⟨es, clock, hb, _⟩, _⟩ := hc
    unfold Is at hi
    rw [hi] at hb
    cases hb
theorem row_off {w : World} {mb base size n : Nat} {r : Option Nat} {m : Mm} {t : TypeId} {v : Value} {xs : List Value} (h : Mem w mb r m) (hup : m.down = false) (ho : w.ownsRow base t size v n xs) (ht : t ≠ 62) : ∀ k, v.ownBlock = some k → ¬ Foot mb r k := by
  intro k hk
  rcases ho.2 with ⟨hv, _⟩ | ⟨g, cap, cur, hv, _, hg, _⟩
  · rw [hv] at hk; cases hk
  · rw [hv] at hk
    have e : g = k := by simpa [Value.ownBlock] using hk
    subst e
    exact is_off h hup (show Is w g t cur from hg) ht
/-- a row of no elements that was just laid -/
theorem own_empty (w : World) (base size : Nat) (t : TypeId) (hb : base ≤ w.heap.size) : (w.alloc (.cells #[] t)).ownsRow base t size (.slice (some ⟨w.heap.size, 0, none⟩) 0 0) 0 [] :=
  ⟨by simp, .inr ⟨w.heap.size, 0, #[], rfl, hb, by simpa using heap_alloc_new w (.cells #[] t), Nat.le_refl _, by unfold maxLen; omega, by simp, by simp⟩⟩

/-- the block of a life -/
def Lf (w : World) (lb mb : Nat) (jv va vu : Value) : Prop := Is w lb 53 #[.pointer (some ⟨mb, 0, none⟩), jv, va, vu]
/-- a row of records that the script owns -/
def Rr (w : World) (base : Nat) (v : Value) (l : List Jo.Rc) (n : Nat) : Prop := w.ownsRow base 49 3 v l.length (recCells n l)
theorem Rr.fr {w w1 : World} {base n : Nat} {v : Value} {l : List Jo.Rc} {S : Nat → Prop} (h : Rr w base v l n) (f : Fr S w w1) (hn : ∀ k, v.ownBlock = some k → ¬ S k) : Rr w1 base v l n := wide_fr h f hn
theorem Rr.fr0 {w w1 : World} {base n : Nat} {v : Value} {l : List Jo.Rc} (h : Rr w base v l n) (f : Fr (fun _ => False) w w1) : Rr w1 base v l n := wide_fr h f fun _ _ => id

/-- the head of a row of records -/
theorem recs_rd {w : World} {base cm : Nat} {M : Option Addr} {l : List Jo.Rc} (h : Rr w base (.slice M l.length cm) l 1) (e : Nat) : Rd w M (recCells 1 (l.take e)) := by
  have hrd := wide_rd h
  have hl : l = l.take e ++ l.drop e := (List.take_append_drop e l).symm
  rw [hl, recCells_append] at hrd
  exact hrd.pre
set_option maxRecDepth 10000 in
theorem recs_head {w : World} {base cm : Nat} {M : Option Addr} {l : List Jo.Rc} (h : Rr w base (.slice M l.length cm) l 1) {e : Nat} (he : e ≤ l.length) (W : World) :
    (Instr.slice 37 (.slice M l.length cm) none (some (.int .i64 (e : Int))) none).run Tryz.prog W = .ok (.slice M e cm) W := by
  obtain ⟨A, c, hv, h1, _, h2, h3⟩ := wide_form h
  injection hv with hA _ hc
  subst hA hc
  rcases M with _ | a
  · obtain ⟨h4, h5⟩ := h3 rfl
    have e0 : e = 0 := by omega
    subst e0 h5
    rw [h4]
    go_simp
  · have hle : (e : Int) ≤ (cm : Int) := by omega
    go_simp
theorem is_ne {w : World} {a b : Nat} {t u : TypeId} {cs ds : Array Value} (h : Is w a t cs) (k : Is w b u ds) (ht : t ≠ u) : a ≠ b := by
  intro e
  subst e
  unfold Is at h k
  rw [h] at k
  injection k with k
  injection k with _ k
  exact ht k

/-- no cell of a memory is a text -/
theorem mem_text {w : World} {mb i : Nat} {r : Option Nat} {m : Mm} (h : Mem w mb r m) (s : ByteArray) : w.cell? ⟨mb, i, none⟩ ≠ some (.string s) := by
  intro e
  obtain ⟨cs, h1, h2, h3⟩ := h.ex
  rw [h1.cell i] at e
  have hs := h2.size
  have hlt : i < cs.size := (Array.getElem?_eq_some_iff.1 e).1
  by_cases e0 : i = 0
  · subst e0; rw [h2.acts] at e; cases e
  · by_cases e1 : i = 1
    · subst e1; rw [h2.armed] at e; cases e
    · by_cases e2 : i = 2
      · subst e2; rw [h3] at e; cases e
      · by_cases e3 : i = 3
        · subst e3; rw [h2.down] at e; cases e
        · by_cases e4 : i < 98308
          · have := h2.pg ((i - 4) / 4096) ((i - 4) % 4096) (by omega) (by omega)
            rw [show 4 + (i - 4) / 4096 * 4096 + (i - 4) % 4096 = i by omega, e] at this
            cases this
          · have := h2.worn (i - 98308) (by omega)
            rw [show 98308 + (i - 98308) = i by omega, e] at this
            cases this
theorem rec_off {w : World} {mb n : Nat} {r : Option Nat} {m : Mm} {A : Option Addr} {l : List Jo.Rc} (h : Mem w mb r m) (hr : Rd w A (recCells n l)) {w1 : World} (f : Fr (fun k => k = mb) w w1) : Rd w1 A (recCells n l) := by
  intro h0
  obtain ⟨g, o, hA, hg, hc⟩ := hr h0
  have hne : g ≠ mb := by
    intro e
    subst e
    rw [recCells_length] at h0
    have c2 := (recCells_at l n 0 (by omega)).2.2
    exact mem_text h _ (hc _ _ c2)
  exact ⟨g, o, hA, Nat.lt_of_lt_of_le hg f.size, fun j u hu => (f.cell (p := ⟨g, o + j, none⟩) hg hne).trans (hc j u hu)⟩

set_option maxRecDepth 100000 in
set_option maxHeartbeats 4000000 in
theorem lfound_any {w : World} {base lb mb jb n0 c0 cm cf k : Nat} {rg : Option Nat} {j : Jm} {c : Nat} {L : Nat → Jo.Sh} {all may : List Jo.Rc} {jv vu : Value} {A0 M F : Option Addr}
    (hL : Lf w lb mb jv (.slice A0 n0 c0) vu) (hJ : JM w jb mb rg j) (hC : Con j all c L) (hM : Rr w base (.slice M may.length cm) may 1) (hpre : may.take all.length = all) (hn0 : n0 ≤ all.length) (hle : all.length ≤ may.length) (hml : may.length ≤ 2147483000)
    (hF : Rd w F (recCells (k + 1) (all.drop k))) (hk : k ≤ all.length) (h16 : k = 0 ∨ k + 16 ≤ all.length) (hb : base ≤ w.heap.size) :
    Calls Tryz.prog 26 #[.pointer (some ⟨lb, 0, none⟩), .pointer (some ⟨jb, 0, none⟩), .slice M may.length cm, .slice F (all.drop k).length cf] w fun e w' => e = .returned (.bool true) ∧ (∃ v, Lf w' lb mb (.pointer (some ⟨jb, 0, none⟩)) v vu ∧ Rr w' base v all 1) ∧ Fr (fun i => i = lb) w w' := by
  have KN := nextj_any hJ.jr
  rw [hC.next] at KN
  have KE := fun W (f : Fr (fun _ => False) w W) => rends_any (w := W) (A := M) (B := F) (ca := cm) (cb := cf) (all := may) (e := all.length) (k := k) ((wide_rd hM).fr f fun _ _ => id) hle hk h16 (by rw [hpre]; exact hF.fr f fun _ _ => id) (by omega)
  rw [hpre] at KE
  have KS := fun W (f : Fr (fun _ => False) w W) => safej_any (hJ.fr f).jr
  rw [hC.o] at KS
  have KD := fun W (h1 : Jb W jb j.o mb j.nth j.first j.next j.stop false) (h2 : Mem W mb rg j.m) => downj_any h1 h2
  rw [hC.up] at KD
  have hrun := recs_head hM hle
  have KF := fun W (h : Rr W base (.slice M may.length cm) may 1) => rsafe_any (w := W) (c := cm) (recs_rd h all.length) (by rw [hpre]; omega)
  rw [hpre] at KF
  have d1 : decide (all.length < n0) = false := decide_eq_false (by omega)
  have d2 : decide (may.length < all.length) = false := decide_eq_false (by omega)
  obtain ⟨i0, hi0, hz0, hz1, hz2⟩ := info_parts Tryz.infoRec
  have hjl : lb ≠ jb := is_ne hL hJ.jr (by decide)
  have hlm : ¬ Foot mb rg lb := is_off hJ.mem hC.up hL (by decide)
  have HE := Lib.hid KE
  have HS := Lib.hid KS
  have HD := Lib.hid KD
  have HKF := Lib.hid KF
  have HL := Lib.hid hL
  have HJ := Lib.hid hJ
  have HM := Lib.hid hM
  have HPRE := Lib.hid hpre
  have hbd : all.length ≤ 2147483000 := by omega
  generalize hfl : (all.drop k).length = fl at *
  clear KE KS KD KF hF hC hM hpre hle hml hk h16 hL hJ hn0 hfl
  go_enter Tryz.func26, Tryz.ntmps26
  go_wp2_with fail
  refine KN.mono ?_
  rintro e w1 ⟨rfl, hw1⟩
  subst hw1
  have l2 : w.cell? ⟨lb, 2, none⟩ = some (.slice A0 n0 c0) := HL.out.cell 2
  have KE := HE.out _ (Fr.refl _ w)
  clear KN HE
  go_wp2_with fail
  refine KE.mono ?_
  rintro e w2 ⟨rfl, f2⟩
  have KS := HS.out _ f2
  have HM2 := Lib.hid (HM.out.fr0 f2)
  have HJ2 := Lib.hid (HJ.out.fr f2)
  have HL2 := Lib.hid (HL.out.fr f2 id)
  have HF2 := Lib.hid f2
  clear KE HS HM HJ HL f2 l2 d1 d2
  go_wp2_with fail
  refine KS.mono ?_
  rintro e w3 ⟨rfl, f3⟩
  have KF := HKF.out w3 (HM2.out.fr0 f3)
  have HM3 := Lib.hid (HM2.out.fr0 f3)
  have HJ3 := Lib.hid (HJ2.out.fr f3)
  have HL3 := Lib.hid (HL2.out.fr f3 id)
  have HF3 := Lib.hid (HF2.out.trans f3 fun _ _ h => h)
  clear KS HM2 HJ2 HL2 HF2 f3 HKF
  go_wp2_with fail
  refine KF.mono ?_
  rintro e w4 ⟨rfl, hw4⟩
  subst hw4
  have z1 : w4.frozen? ⟨lb, 1, none⟩ = false := HL3.out.frozen 1
  have y1 : w4.cell? ⟨lb, 1, none⟩ = some jv := HL3.out.cell 1
  have hL4 : Lf (w4.setCell ⟨lb, 1, none⟩ (.pointer (some ⟨jb, 0, none⟩))) lb mb (.pointer (some ⟨jb, 0, none⟩)) (.slice A0 n0 c0) vu := by
    have := HL3.out.set 1 (.pointer (some ⟨jb, 0, none⟩))
    simpa [Lf] using this
  have f4 := (Fr.refl (fun i => i = lb) w4).setCell (p := ⟨lb, 1, none⟩) (.inl rfl) (.pointer (some ⟨jb, 0, none⟩))
  have HM4 := Lib.hid (HM3.out.fr f4 fun k hk e => wide_is_ne HM3.out HL3.out (by decide) (e ▸ hk))
  have HJ4 := Lib.hid (And.intro (HJ3.out.jr.fr f4 fun e => hjl e.symm) (HJ3.out.mem.fr f4 (fun e => hlm (.inl e.symm)) fun k hk e => hlm (.inr (by rw [hk, e]))))
  have HL4 := Lib.hid hL4
  have HF4 := Lib.hid ((HF3.out.mono (S' := fun i => i = lb) fun _ _ h => h.elim).trans f4 fun _ _ h => h)
  have q1 : ((safeT (Jo.lastSafe none all)).toList == (safeT (Jo.lastSafe none all)).toList) = true := beq_self_eq_true _
  generalize safeT (Jo.lastSafe none all) = sx at *
  generalize (Jo.lastSafe none all).isSome = sb at *
  clear KF HM3 HJ3 HL3 HF3 hL4 f4
  go_upto_region 7 with fail
  generalize w4.setCell ⟨lb, 1, none⟩ (.pointer (some ⟨jb, 0, none⟩)) = w5 at *
  clear z1 y1
  have HOE := Lib.hid (own_empty w5 base 3 49 (by have := HF4.out.size; omega))
  have HR5 := Lib.hid ((recs_rd HM4.out all.length).fr ((Fr.refl (fun _ => False) w5).alloc (.cells #[] 49)) fun _ _ => id)
  rw [HPRE.out] at HR5
  have HLE := Lib.hid (recCells_length all 1)
  have HON := Lib.hid (recCells_one all 1)
  have hbs : base ≤ (w5.alloc (.cells #[] 49)).heap.size := by have := HF4.out.size; simp; omega
  go_wp2_with (at_builtin; refine wpList_append_wide _ rfl (.tmp 56) (.tmp 59) 37 rfl base 49 i0 _ 3 32 Tryz.underlying37 hi0 hz0 hz1 hz2 rfl (by decide) (.slice (some ⟨w5.heap.size, 0, none⟩) 0 0) 0 [] rfl HOE.out M cm all.length (recCells 1 all) HLE.out rfl HR5.out HON.out (by unfold maxLen; omega) (by omega) hbs ?_; intro v6 w6 hown6 hg6 hat6; obtain ⟨A6, c6, rfl, _, _, _, _⟩ := wide_form hown6; have f6 : Fr (fun _ => False) w5 w6 := ((Fr.refl (fun _ => False) w5).alloc (.cells #[] 49)).grown hg6 (fun k hk => .inr (by have e : w5.heap.size = k := by { injection hk }; omega)); have i6 := HL4.out.fr f6 id; have z6 : w6.frozen? ⟨lb, 2, none⟩ = false := i6.frozen 2; have y6 : w6.cell? ⟨lb, 2, none⟩ = some (.slice A0 n0 c0) := i6.cell 2; have HL6 := Lib.hid i6; have HO6 := Lib.hid hown6; have HF6 := Lib.hid f6; clear hown6 hg6 hat6 i6 f6)
  have hL7 : Lf (w6.setCell ⟨lb, 2, none⟩ (.slice A6 all.length c6)) lb mb (.pointer (some ⟨jb, 0, none⟩)) (.slice A6 all.length c6) vu := by
    have := HL6.out.set 2 (.slice A6 all.length c6)
    simpa [Lf] using this
  have f7 := (Fr.refl (fun i => i = lb) w6).setCell (p := ⟨lb, 2, none⟩) (.inl rfl) (.slice A6 all.length c6)
  have ho6 : Rr w6 base (.slice A6 all.length c6) all 1 := by
    have := HO6.out
    simpa [Rr] using this
  have HR7 := Lib.hid (ho6.fr f7 fun k hk e => wide_is_ne ho6 HL6.out (by decide) (e ▸ hk))
  have HF7 := Lib.hid ((HF4.out.trans HF6.out fun _ _ h => h.elim).trans f7 fun _ _ h => h)
  have KD := HD.out (w6.setCell ⟨lb, 2, none⟩ (.slice A6 all.length c6)) ((HJ4.out.1.fr HF6.out id).fr f7 fun e => hjl e.symm) ((HJ4.out.2.none HF6.out).fr f7 (fun e => hlm (.inl e.symm)) fun k hk e => hlm (.inr (by rw [hk, e])))
  have HL7 := Lib.hid hL7
  clear hL7 f7 ho6 HL6 HO6 HF4 HF6 HM4 HJ4 HL4 HOE HR5 HLE HON HD hrun y6 z6
  refine KD.mono ?_
  rintro e w8 ⟨rfl, f8⟩
  have HL8 := Lib.hid (HL7.out.fr f8 id)
  have HR8 := Lib.hid (HR7.out.fr0 f8)
  have HF8 := Lib.hid (HF7.out.trans f8 fun _ _ h => h.elim)
  clear KD f8 HL7 HR7 HF7
  go_wp2_with fail
  go_ret
  exact ⟨rfl, ⟨_, HL8.out, HR8.out⟩, HF8.out⟩
end Go.Proofs.YtdoljggaoidljaaGreat
/- A script's journal: the contract of open. -/
namespace Go.Proofs.YtdoljggaoidljaaGreat
open Go.RowKit

/-- its counts are small -/
structure Cnt (m : Mm) (n : Nat) (all : List Jo.Rc) : Prop where
  acts : m.acts ≤ 4 * n
  worn : ∀ q, m.worn q ≤ 4 * n
  len : all.length ≤ n
  oks : ∀ r ∈ all, r.ok
/-- a script's journal that is up -/
structure Up (w : World) (base lb n : Nat) (all : List Jo.Rc) : Prop where
  ex : ∃ mb jb rg j c L v, JM w jb mb rg j ∧ Con j all c L ∧ Cnt j.m n all ∧ Lf w lb mb (.pointer (some ⟨jb, 0, none⟩)) v (.slice none 0 0) ∧ Rr w base v all 1 ∧ base ≤ mb ∧ base ≤ jb ∧ ∀ k, rg = some k → base ≤ k

theorem opn_any {w : World} {b : Nat} {r : Option Nat} {m : Mm} (h : Mem w b r m) (hup : m.down = false) {all : List Jo.Rc} {c : Nat} {L : Nat → Jo.Sh} (hst : Jo.St m.pg all c L) (hoks : ∀ r ∈ all, r.ok) (hlen : all.length ≤ 2147483000) :
    Calls Tryz.prog 9 #[.pointer (some ⟨b, 0, none⟩)] w fun e w' => ∃ (jb k : Nat) (A : Option Addr) (cp : Nat), e = .returned (.tuple #[.pointer (some ⟨jb, 0, none⟩), .slice A (all.drop k).length cp, .int .i64 0]) ∧ (∃ j, JM w' jb b r j ∧ Con j all c L ∧ j.m = m) ∧ w.heap.size ≤ jb ∧ k ≤ all.length ∧ (k = 0 ∨ k + 16 ≤ all.length) ∧ Rd w' A (recCells (k + 1) (all.drop k)) ∧ Fr (fun _ => False) w w' := by
  refine (open_any h hup hst hlen).mono ?_
  rintro e w' ⟨jb, k, A, cp, rfl, hj, h1, h2, h3, h4, f⟩
  have hb := h.blt
  refine ⟨jb, k, A, cp, rfl, ⟨⟨m, Jo.lastSafe none all, c - 1, firstOf c L, all.length + 1, stopOf c L⟩, ⟨h.none f, hj.is, ?_⟩, ⟨hst, rfl, rfl, rfl, rfl, rfl, hup, hoks⟩, rfl⟩, h1, h2, h3, h4, f⟩
  rintro (e | e)
  · omega
  · have := h.lt jb e
    omega
/-- .. Arm of none behind it -/
theorem disarm_any {w : World} {jb mb : Nat} {r : Option Nat} {j : Jm} {c : Nat} {L : Nat → Jo.Sh} {all : List Jo.Rc} (a : JM w jb mb r j) (b : Con j all c L) :
    Calls Tryz.prog 25 #[.pointer (some ⟨mb, 0, none⟩), .slice none 0 0] w fun e w' => e = .returned (.tuple #[]) ∧ (∃ j', JM w' jb mb (some w.heap.size) j' ∧ Con j' all c L ∧ j'.m.acts = j.m.acts ∧ j'.m.worn = j.m.worn) ∧ Fr (fun k => k = mb) w w' := by
  have hjb : jb ≠ mb := fun e => a.off (.inl e)
  have hjl : jb < w.heap.size := a.jr.lt
  refine (arm_any (c := 0) a.mem (l := []) (A := none) (fun h0 => by simp [cutCells] at h0) (fun _ => by simp [blk]) (by decide) (by simp)).mono ?_
  rintro e w' ⟨rfl, h1, f⟩
  refine ⟨rfl, ⟨{ j with m := j.m.arm fun i => cutAt [] i }, ⟨h1, a.jr.fr f hjb, ?_⟩, ⟨b.st, b.nth, b.first, b.next, b.stop, b.o, b.up, b.oks⟩, rfl, rfl⟩, f⟩
  rintro (e | e)
  · exact hjb e
  · have : w.heap.size = jb := by injection e
    omega
theorem mem_is {w : World} {mb : Nat} {r : Option Nat} {m : Mm} (h : Mem w mb r m) : ∃ cs, Is w mb 62 cs := by
  obtain ⟨cs, h1, _⟩ := h.ex
  exact ⟨cs, h1⟩
/-- a row of another type stays when a memory turns -/
theorem Rr.frm {w w1 : World} {base n mb : Nat} {v : Value} {l : List Jo.Rc} {r : Option Nat} {m : Mm} (h : Rr w base v l n) (hM : Mem w mb r m) (f : Fr (fun k => k = mb) w w1) : Rr w1 base v l n := by
  obtain ⟨cs, hi⟩ := mem_is hM
  exact h.fr f fun k hk e => wide_is_ne h hi (by decide) (e ▸ hk)
theorem JM.frl {w w1 : World} {jb mb lb : Nat} {r : Option Nat} {j : Jm} (h : JM w jb mb r j) (f : Fr (fun i => i = lb) w w1) (h1 : jb ≠ lb) (h2 : ¬ Foot mb r lb) : JM w1 jb mb r j :=
  ⟨h.mem.fr f (fun e => h2 (.inl e.symm)) (fun k hk e => h2 (.inr (by rw [hk, e]))), h.jr.fr f h1, h.off⟩

theorem row_new {w1 : World} {A : Option Addr} {n c : Nat} {o : Obj} (h : (Value.slice A n c).ownBlock = (Value.slice (some ⟨w1.heap.size, 0, none⟩) 0 0).ownBlock ∨ (Value.slice A n c).ownBlock = some (w1.alloc o).drew.heap.size) : ∀ k, (Value.slice A n c).ownBlock = some k → w1.heap.size ≤ k := by
  intro k hk
  rcases h with h | h
  · rw [h] at hk
    have e : w1.heap.size = k := by injection hk
    omega
  · rw [h] at hk
    have e : (w1.alloc o).drew.heap.size = k := by injection hk
    have e2 : (w1.alloc o).drew.heap.size = w1.heap.size + 1 := by show (w1.alloc o).heap.size = _; simp
    omega

set_option maxRecDepth 100000 in
set_option maxHeartbeats 8000000 in
theorem lopen_any {w : World} {base lb mb n cc : Nat} {rg : Option Nat} {m : Mm} {jv va vu : Value} {all und all' : List Jo.Rc} {C : Option Addr} {l : List (Int × Int)}
    (hL : Lf w lb mb jv va vu) (hA : Rr w base va all 1) (hU : Rr w base vu und (1 + all.length)) (hM : Mem w mb rg m) (hup : m.down = false) (hst : ∃ c L, Jo.St m.pg all' c L) (hct : Cnt m n all')
    (h1 : (all ++ und).take all'.length = all') (h2 : all.length ≤ all'.length) (h3 : all'.length ≤ (all ++ und).length) (h4 : (all ++ und).length ≤ 2147483000)
    (hb : base ≤ lb ∧ base ≤ mb ∧ base ≤ w.heap.size) (hl : Rd w C (cutCells l)) (hC : 0 < l.length → blk C ≠ some mb) (hlen : l.length ≤ 140737488355328) (hwf : ∀ x ∈ l, (ki x.1).wf = true ∧ (ki x.2).wf = true) :
    Calls Tryz.prog 14 #[.pointer (some ⟨lb, 0, none⟩), .slice C l.length cc] w fun e w' => e = .returned (.bool true) ∧ Up w' base lb n all' ∧ Fr (fun k => base ≤ k) w w' := by
  obtain ⟨A, ca, hva, _, _, _, _⟩ := wide_form hA
  obtain ⟨U, cu, hvu, _, _, _, _⟩ := wide_form hU
  subst hva hvu
  obtain ⟨csm, hms⟩ := mem_is hM
  have hlm : lb ≠ mb := is_ne hL hms (by decide)
  have KA := arm_any (c := cc) hM hl hC hlen hwf
  have l0 : w.cell? ⟨lb, 0, none⟩ = some (.pointer (some ⟨mb, 0, none⟩)) := hL.cell 0
  obtain ⟨i0, hi0, hz0, hz1, hz2⟩ := info_parts Tryz.infoRec
  have HL := Lib.hid hL
  have HA := Lib.hid hA
  have HU := Lib.hid hU
  have HM := Lib.hid hM
  have HLEN := Lib.hid h4
  have HST : Hid (∃ c L, Jo.St (m.arm fun i => cutAt l i).pg all' c L) := Lib.hid hst
  have HUP : Hid ((m.arm fun i => cutAt l i).down = false) := Lib.hid hup
  have HCT : Hid (Cnt (m.arm fun i => cutAt l i) n all') := Lib.hid ⟨hct.acts, hct.worn, hct.len, hct.oks⟩
  have HX := Lib.hid (And.intro h1 (And.intro h2 (And.intro h3 hb)))
  generalize m.arm (fun i => cutAt l i) = ma at *
  clear hL hA hU hM hl hC hlen hwf hst hct hup h1 h2 h3 hb hms
  go_enter Tryz.func14, Tryz.ntmps14
  go_wp2_with fail
  refine KA.mono ?_
  rintro e w1 ⟨rfl, M1, f1⟩
  obtain ⟨r1, hr1⟩ : ∃ r1, r1 = w.heap.size := ⟨_, rfl⟩
  rw [← hr1] at M1
  have HR1 : Hid (base ≤ r1) := Lib.hid (by have := HX.out.2.2.2.2.2; omega)
  have HL1 := Lib.hid (HL.out.fr f1 hlm)
  have HA1 := Lib.hid (HA.out.frm HM.out f1)
  have HU1 := Lib.hid (HU.out.frm HM.out f1)
  have HF1 := Lib.hid (f1.mono (S' := fun k => base ≤ k) fun k _ e => by have := HX.out.2.2.2.2.1; omega)
  have HM1 := Lib.hid M1
  clear KA M1 f1 HL HA HU HM hr1 l0
  go_wp2_with fail
  have l2 : w1.cell? ⟨lb, 2, none⟩ = some (.slice A all.length ca) := HL1.out.cell 2
  have l3 : w1.cell? ⟨lb, 3, none⟩ = some (.slice U und.length cu) := HL1.out.cell 3
  have fa := (Fr.refl (fun _ => False) w1).alloc (.cells #[] 49)
  have l2a : (w1.alloc (.cells #[] 49)).cell? ⟨lb, 2, none⟩ = some (.slice A all.length ca) := (HL1.out.fr fa id).cell 2
  have l3a : (w1.alloc (.cells #[] 49)).cell? ⟨lb, 3, none⟩ = some (.slice U und.length cu) := (HL1.out.fr fa id).cell 3
  have hbw : base ≤ w1.heap.size := by have := HF1.out.size; have := HX.out.2.2.2.2.2; omega
  have HOE : Hid ((w1.alloc (.cells #[] 49)).drew.ownsRow base 49 3 (.slice (some ⟨w1.heap.size, 0, none⟩) 0 0) 0 []) := Lib.hid (own_empty w1 base 3 49 hbw)
  have HRA : Hid (Rd (w1.alloc (.cells #[] 49)).drew A (recCells 1 all)) := Lib.hid ((wide_rd HA1.out).fr fa.drew fun _ _ => id)
  have HLE := Lib.hid (And.intro (recCells_length all 1) (recCells_length und (1 + all.length)))
  have HON := Lib.hid (And.intro (recCells_one all 1) (recCells_one und (1 + all.length)))
  have hbs : base ≤ (w1.alloc (.cells #[] 49)).drew.heap.size := by show base ≤ (w1.alloc (.cells #[] 49)).heap.size; simp; omega
  have hbl1 : all.length ≤ 2147483000 := by have := HLEN.out; rw [List.length_append] at this; omega
  have hbl2 : all.length + und.length ≤ 2147483000 := by have := HLEN.out; rw [List.length_append] at this; omega
  have HFA := Lib.hid fa
  clear fa
  go_cut [5] from 18 (fun v5 wx => ∃ A7 c7, v5 = .slice A7 (all.length + und.length) c7 ∧ Rr wx base v5 (all ++ und) 1 ∧ Fr (fun _ => False) w1 wx)
  case first =>
    go_region_law (first
      | (refine step_append_wide _ rfl (.tmp 18) (.tmp 22) 37 rfl base 49 i0 _ 3 32 Tryz.underlying37 hi0 hz0 hz1 hz2 rfl (by decide) (.slice (some ⟨w1.heap.size, 0, none⟩) 0 0) 0 [] (by simp [Act.eval]) HOE.out A ca all.length (recCells 1 all) HLE.out.1 (by simp [Act.eval]) HRA.out HON.out.1 (by unfold maxLen; omega) (by omega) hbs ?_; intro v6 w6 hown6 hg6 hat6; obtain ⟨A6, c6, rfl, _, _, _, _⟩ := wide_form hown6; have f6 : Fr (fun _ => False) w1 w6 := (HFA.out.drew).grown hg6 (fun k hk => .inr (by have e : w1.heap.size = k := by { injection hk }; omega)); have l3b : w6.cell? ⟨lb, 3, none⟩ = some (.slice U und.length cu) := (HL1.out.fr f6 id).cell 3; have hge6 := row_new hat6; have HGE6 := Lib.hid hge6; have HO6 := Lib.hid hown6; have HF6 := Lib.hid f6; clear hown6 hg6 hat6 f6 hge6)
      | (refine step_append_wide _ rfl (.tmp 23) (.tmp 27) 37 rfl base 49 i0 _ 3 32 Tryz.underlying37 hi0 hz0 hz1 hz2 rfl (by decide) (.slice A6 (0 + all.length) c6) (0 + all.length) ([] ++ recCells 1 all) (by simp [Act.eval]) HO6.out U cu und.length (recCells (1 + all.length) und) HLE.out.2 (by simp [Act.eval]) (wide_rd (HU1.out.fr0 HF6.out)) HON.out.2 (by unfold maxLen; omega) (by omega) (by have := HF6.out.size; omega) ?_; intro v7 w7 hown7 hg7 hat7; obtain ⟨A7, c7, rfl, _, _, _, _⟩ := wide_form hown7; have HO7 := Lib.hid hown7; have HF7 : Hid (Fr (fun _ => False) w1 w7) := Lib.hid (HF6.out.grown hg7 (fun k hk => .inr (HGE6.out k hk))); clear hown7 hg7 hat7))
    all_goals
      go_wp2_with fail
      go_meet
      case rel =>
        refine ⟨A7, c7, by go_num, ?_, HF7.out⟩
        have := HO7.out
        unfold Rr
        rw [recCells_append, List.length_append]
        simpa using this
  case rest =>
    obtain ⟨A7, c7, rfl, hM7, hF7⟩ := hcut
    have HR7 := Lib.hid hM7
    have HF7 := Lib.hid hF7
    clear hM7 hF7
    obtain ⟨w7, hw7⟩ : ∃ w7, w7 = wc := ⟨_, rfl⟩
    subst hw7
    have HL7 := Lib.hid (HL1.out.fr HF7.out id)
    have HM7 := Lib.hid (HM1.out.none HF7.out)
    have HF8 := Lib.hid (HF1.out.trans HF7.out fun _ _ h => h.elim)
    have z3 : w7.frozen? ⟨lb, 3, none⟩ = false := HL7.out.frozen 3
    have y3 : w7.cell? ⟨lb, 3, none⟩ = some (.slice U und.length cu) := HL7.out.cell 3
    clear HL1 HA1 HU1 HF1 HM1 HF7 HOE HRA HLE HON HFA l2 l3 l2a l3a hbs
    have hl8 : Lf (w7.setCell ⟨lb, 3, none⟩ (.slice none 0 0)) lb mb jv (.slice A all.length ca) (.slice none 0 0) := by
      have := HL7.out.set 3 (.slice none 0 0)
      simpa [Lf] using this
    have f8 := (Fr.refl (fun i => i = lb) w7).setCell (p := ⟨lb, 3, none⟩) (.inl rfl) (.slice none 0 0)
    have hlo : ¬ Foot mb (some r1) lb := is_off HM7.out HUP.out HL7.out (by decide)
    have HM8 := Lib.hid (HM7.out.fr f8 (fun e => hlo (.inl e.symm)) (fun k hk e => hlo (.inr (by rw [hk, e]))))
    have HR8 := Lib.hid (HR7.out.fr f8 fun k hk e => wide_is_ne HR7.out HL7.out (by decide) (e ▸ hk))
    have HF9 := Lib.hid (HF8.out.trans f8 fun k _ e => by have := HX.out.2.2.2.1; omega)
    have HL8 := Lib.hid hl8
    clear HL7 HM7 HR7 HF8 hl8 f8
    go_wp2_with fail
    refine wp_loop_rounds 1 ?_
    rw [rounds_succ]
    generalize w7.setCell ⟨lb, 3, none⟩ (.slice none 0 0) = w8 at *
    clear z3 y3
    have m0 : w8.cell? ⟨lb, 0, none⟩ = some (.pointer (some ⟨mb, 0, none⟩)) := HL8.out.cell 0
    have hoks := HCT.out.oks
    have hle := HX.out.2.2.1
    have hst := HST.out
    obtain ⟨c, L, hst⟩ := hst
    have KO := opn_any HM8.out HUP.out hst hoks (by have := HLEN.out; omega)
    clear hst hoks
    go_wp2_with fail
    refine KO.mono ?_
    rintro e w9 ⟨jb, k, F, cf, rfl, ⟨j, j9, q9, hjm⟩, hjb, hk, h16, hrf, f9⟩
    have HL9 := Lib.hid (HL8.out.fr f9 id)
    have HR9 := Lib.hid (HR8.out.fr0 f9)
    have HF10 := Lib.hid (HF9.out.trans f9 fun _ _ h => h.elim)
    have m0 : w9.cell? ⟨lb, 0, none⟩ = some (.pointer (some ⟨mb, 0, none⟩)) := HL9.out.cell 0
    have KD := disarm_any j9 q9
    have HJ9 := Lib.hid j9
    have HRF := Lib.hid hrf
    have HK := Lib.hid (And.intro hk h16)
    have hjb0 : base ≤ jb := by have := HF9.out.size; have := HX.out.2.2.2.2.2; omega
    have HCC : Hid (j.m.acts ≤ 4 * n ∧ ∀ q, j.m.worn q ≤ 4 * n) := Lib.hid (by rw [hjm]; exact ⟨HCT.out.acts, HCT.out.worn⟩)
    obtain ⟨r9, hr9⟩ : ∃ r9, r9 = w9.heap.size := ⟨_, rfl⟩
    rw [← hr9] at KD
    have hr90 : base ≤ r9 := by have := HF10.out.size; have := HX.out.2.2.2.2.2; omega
    generalize hfl : (all'.drop k).length = fl at *
    have HFL := Lib.hid hfl
    clear KO HL8 HM8 HR8 HF9 f9 j9 hrf hk h16 hjm hjb hr9 hfl q9
    go_wp2_with fail
    refine KD.mono ?_
    rintro e w10 ⟨rfl, ⟨j', j10, q10, a10, b10⟩, f10⟩
    have hlm10 : lb ≠ mb := hlm
    have HL10 := Lib.hid (HL9.out.fr f10 hlm10)
    have HR10 := Lib.hid (HR9.out.frm HJ9.out.mem f10)
    have hrf10 := rec_off HJ9.out.mem HRF.out f10
    have HF11 := Lib.hid (HF10.out.trans f10 fun k _ e => by have := HX.out.2.2.2.2.1; omega)
    have hX := HX.out
    have KF := lfound_any (base := base) (may := all ++ und) (cm := c7) (cf := cf) HL10.out j10 q10 (M := A7) (by have := HR10.out; rw [List.length_append]; exact this) hX.1 hX.2.1 hX.2.2.1 HLEN.out hrf10 HK.out.1 HK.out.2 (by have := HF11.out.size; omega)
    rw [HFL.out, List.length_append] at KF
    have HJ10 := Lib.hid j10
    have HQ10 := Lib.hid q10
    have HCD : Hid (j'.m.acts ≤ 4 * n ∧ ∀ q, j'.m.worn q ≤ 4 * n) := Lib.hid (by rw [a10, b10]; exact HCC.out)
    have hjl : jb ≠ lb := fun e => is_ne HL10.out j10.jr (by decide) e.symm
    have hlf : ¬ Foot mb (some r9) lb := is_off j10.mem q10.up HL10.out (by decide)
    have HLX := Lib.hid (And.intro hjl hlf)
    clear KD HL9 HR9 HJ9 HRF HF10 f10 hrf10 j10 q10 a10 b10 hX m0 hjl hlf HCC
    go_wp2_with fail
    refine KF.mono ?_
    rintro e w11 ⟨rfl, ⟨v, hl11, hr11⟩, f11⟩
    have HU : Hid (Up w11 base lb n all') := Lib.hid ⟨mb, jb, some r9, j', c, L, v, HJ10.out.frl f11 HLX.out.1 HLX.out.2, HQ10.out, ⟨HCD.out.1, HCD.out.2, HCT.out.len, HCT.out.oks⟩, hl11, hr11, HX.out.2.2.2.2.1, hjb0, fun k e => by injection e with e; omega⟩
    have HF12 := Lib.hid (HF11.out.trans f11 fun k _ e => by have := HX.out.2.2.2.1; omega)
    clear KF hl11 hr11 f11
    go_wp2_with fail
    go_ret
    exact ⟨rfl, HU.out, HF12.out⟩
end Go.Proofs.YtdoljggaoidljaaGreat
/- A script's journal: what a step does that appends. -/
namespace Go.Proofs.YtdoljggaoidljaaGreat
open Go.RowKit

/-- a script's journal that went down while a record was appended -/
structure Dn (w : World) (base lb n : Nat) (all : List Jo.Rc) (r : Jo.Rc) : Prop where
  ex : ∃ mb rg m jv v vu all', Mem w mb rg m ∧ m.down = true ∧ (∃ c L, Jo.St m.pg all' c L) ∧ (all' = all ∨ all' = all ++ [r]) ∧ m.acts ≤ 4 * n ∧ (∀ q, m.worn q ≤ 4 * n) ∧ all.length + 1 ≤ n ∧ (∀ x ∈ all ++ [r], x.ok) ∧ Lf w lb mb jv v vu ∧ Rr w base v all 1 ∧ Rr w base vu [r] (1 + all.length) ∧ base ≤ mb

theorem Cnt.mono {m : Mm} {n n' : Nat} {all : List Jo.Rc} (h : Cnt m n all) (hn : n ≤ n') : Cnt m n' all := ⟨by have := h.acts; omega, fun q => by have := h.worn q; omega, by have := h.len; omega, h.oks⟩
theorem Up.mono {w : World} {base lb n n' : Nat} {all : List Jo.Rc} (h : Up w base lb n all) (hn : n ≤ n') : Up w base lb n' all := by
  obtain ⟨mb, jb, rg, j, c, L, v, h1, h2, h3, h4⟩ := h.ex
  exact ⟨mb, jb, rg, j, c, L, v, h1, h2, h3.mono hn, h4⟩
theorem Up.fr {w w1 : World} {base lb n : Nat} {all : List Jo.Rc} (h : Up w base lb n all) (f : Fr (fun _ => False) w w1) : Up w1 base lb n all := by
  obtain ⟨mb, jb, rg, j, c, L, v, h1, h2, h3, h4, h5, h6⟩ := h.ex
  exact ⟨mb, jb, rg, j, c, L, v, h1.fr f, h2, h3, h4.fr f id, h5.fr0 f, h6⟩
theorem jok_of {j : Jm} {n : Nat} {all : List Jo.Rc} {c : Nat} {L : Nat → Jo.Sh} (b : Con j all c L) (d : Cnt j.m n all) (hn : n ≤ 1000000000) : Jok 0 j := by
  have hlen := d.len
  have hact := d.acts
  have hcnt := b.st.count
  have hol : (j.o.getD []).length ≤ 1000 := by rw [b.o]; exact lastSafe_len all none b.oks (by decide)
  have hfirst : j.first ≤ all.length + 1 := by
    rw [b.first]
    unfold firstOf
    split
    · omega
    · rw [b.st.first _ (by omega)]
      have e := b.st.all_last (c := c) (by omega)
      have e2 : all.length = (Jo.upto L (c - 1)).length + (L (c - 1)).recs.length := by rw [← List.length_append, ← e]
      omega
  have hstop : j.stop ≤ 4096 := by
    rw [b.stop]
    unfold stopOf
    split
    · exact Nat.le_refl _
    · exact body_le b.st (by omega)
  exact ⟨by omega, fun p => by have := d.worn p; omega, by rw [b.nth]; omega, by omega, by rw [b.next]; omega, hstop, hol⟩
theorem append_good {w : World} {jb mb : Nat} {r : Option Nat} {j : Jm} (h : JM w jb mb r j) (hd : j.m.down = false) (hs : Jok 0 j) (k : Int) (x : ByteArray) (hk : k = 1 ∨ k = 2) (hx : x.size ≤ 1000) (h0 : (j.put ⟨k, bytesOf x⟩).1 = 0) :
    Calls Tryz.prog 10 #[.pointer (some ⟨jb, 0, none⟩), .int .i64 k, .string x] w fun e w' => e = .returned (.int .i64 0) ∧ JM w' jb mb r (j.put ⟨k, bytesOf x⟩).2 ∧ JF w w' jb mb r := by
  refine (append_any h hd hs k x hk hx).mono ?_
  rintro e w' (⟨_, h1⟩ | ⟨h1, _⟩)
  · exact h1
  · exact absurd h0 h1
theorem append_fell {w : World} {jb mb : Nat} {r : Option Nat} {j : Jm} (h : JM w jb mb r j) (hd : j.m.down = false) (hs : Jok 0 j) (k : Int) (x : ByteArray) (hk : k = 1 ∨ k = 2) (hx : x.size ≤ 1000) (h0 : (j.put ⟨k, bytesOf x⟩).1 ≠ 0) :
    Calls Tryz.prog 10 #[.pointer (some ⟨jb, 0, none⟩), .int .i64 k, .string x] w fun e w' => e = .returned (.int .i64 14) ∧ Mem w' mb r (j.put ⟨k, bytesOf x⟩).2.m ∧ (∃ o nth first next stop, Jb w' jb o mb nth first next stop true) ∧ JF w w' jb mb r := by
  refine (append_any h hd hs k x hk hx).mono ?_
  rintro e w' (⟨h1, _⟩ | ⟨_, h1⟩)
  · exact absurd h1 h0
  · exact h1

def opV (kind rec : Int) (x : ByteArray) (cv : Value) : Value := .agg #[.int .i64 kind, .int .i64 rec, .string x, cv]

theorem row_new2 {w W : World} {A : Option Addr} {n c : Nat} {v : Value} (h : (Value.slice A n c).ownBlock = v.ownBlock ∨ (Value.slice A n c).ownBlock = some W.heap.size) (h1 : ∀ k, v.ownBlock = some k → w.heap.size ≤ k) (h2 : w.heap.size ≤ W.heap.size) : ∀ k, (Value.slice A n c).ownBlock = some k → w.heap.size ≤ k := by
  intro k hk
  rcases h with h | h
  · exact h1 k (by rw [← h]; exact hk)
  · rw [h] at hk
    have e : W.heap.size = k := by injection hk
    omega
theorem app_end {w3 w7 : World} {base lb mb c7 : Nat} {jv va vu : Value} {A7 : Option Addr} {all : List Jo.Rc} {r : Jo.Rc} (h : Lf w3 lb mb jv va vu) (f : Fr (fun _ => False) w3 w7) (ho : w7.ownsRow base 49 3 (.slice A7 (0 + all.length + 1) c7) (0 + all.length + 1) ([] ++ recCells 1 all ++ recCells (1 + all.length) [r])) :
    Lf (w7.setCell ⟨lb, 2, none⟩ (.slice A7 (0 + all.length + 1) c7)) lb mb jv (.slice A7 (0 + all.length + 1) c7) vu ∧ Rr (w7.setCell ⟨lb, 2, none⟩ (.slice A7 (0 + all.length + 1) c7)) base (.slice A7 (0 + all.length + 1) c7) (all ++ [r]) 1 ∧ Fr (fun k => k = lb) w3 (w7.setCell ⟨lb, 2, none⟩ (.slice A7 (0 + all.length + 1) c7)) := by
  have hl := h.fr f id
  have fs := (Fr.refl (fun k => k = lb) w7).setCell (p := ⟨lb, 2, none⟩) (.inl rfl) (.slice A7 (0 + all.length + 1) c7)
  have hr : Rr w7 base (.slice A7 (0 + all.length + 1) c7) (all ++ [r]) 1 := by
    unfold Rr
    rw [recCells_append, List.length_append]
    simpa using ho
  refine ⟨?_, hr.fr fs fun k hk e => wide_is_ne hr hl (by decide) (e ▸ hk), (f.mono fun _ _ h => h.elim).trans fs fun _ _ h => h⟩
  have := hl.set 2 (.slice A7 (0 + all.length + 1) c7)
  simpa [Lf] using this
/-- a row of one record that was just laid -/
theorem rec_row (W : World) (base n : Nat) (k : Int) (x : ByteArray) (hb : base ≤ W.heap.size) : Rr (W.alloc (.cells #[.int .i64 ((n : Int) + 1), .int .i64 k, .string x] 49)) base (.slice (some ⟨W.heap.size, 0, none⟩) 1 1) [⟨k, bytesOf x⟩] (1 + n) := by
  refine ⟨by simp [recCells], .inr ⟨W.heap.size, 1, #[.int .i64 ((n : Int) + 1), .int .i64 k, .string x], rfl, hb, by simpa using heap_alloc_new W (.cells #[.int .i64 ((n : Int) + 1), .int .i64 k, .string x] 49), by simp, by unfold maxLen; omega, by simp, ?_⟩⟩
  have e : (⟨(bytesOf x).toArray⟩ : ByteArray) = x := mk_bytesOf x
  have e2 : ((1 + n : Nat) : Int) = (n : Int) + 1 := by omega
  simp only [recCells, e, e2]
  rfl
/-- what a script's journal leads to when it appends -/
def App3 (w w' : World) (n : Nat) (all : List Jo.Rc) (rec : Int) (x : ByteArray) (mb jb : Nat) (rg : Option Nat) (q : Int) : Prop :=
  (q ≠ 0 ∧ (∀ W : World, Calls Tryz.prog 27 #[.int .i64 rec, .string x] W fun e w' => e = .returned (.int .i64 q) ∧ w' = W) ∧ Fr (fun _ => False) w w') ∨
  ((∀ W : World, Calls Tryz.prog 27 #[.int .i64 rec, .string x] W fun e w' => e = .returned (.int .i64 0) ∧ w' = W) ∧ (⟨rec, bytesOf x⟩ : Jo.Rc).ok ∧ Fr (fun k => Foot mb rg k ∨ k = jb) w w' ∧
    ((q = 0 ∧ ∃ j c L, JM w' jb mb rg j ∧ Con j (all ++ [⟨rec, bytesOf x⟩]) c L ∧ Cnt j.m (n + 1) (all ++ [⟨rec, bytesOf x⟩])) ∨
     (q = 14 ∧ ∃ m o nth first next stop all', Mem w' mb rg m ∧ Jb w' jb o mb nth first next stop true ∧ m.down = true ∧ (∃ c L, Jo.St m.pg all' c L) ∧ (all' = all ∨ all' = all ++ [⟨rec, bytesOf x⟩]) ∧ m.acts ≤ 4 * (n + 1) ∧ (∀ q, m.worn q ≤ 4 * (n + 1)))))
theorem append3 {w : World} {n : Nat} {all : List Jo.Rc} {mb jb : Nat} {rg : Option Nat} {j : Jm} {c : Nat} {L : Nat → Jo.Sh} (h1 : JM w jb mb rg j) (h2 : Con j all c L) (h3 : Cnt j.m n all) (hn : n ≤ 1000000000) (rec : Int) (x : ByteArray) :
    Calls Tryz.prog 10 #[.pointer (some ⟨jb, 0, none⟩), .int .i64 rec, .string x] w fun e w' => ∃ q, e = .returned (.int .i64 q) ∧ App3 w w' n all rec x mb jb rg q := by
  by_cases hk : rec = 1 ∨ rec = 2
  · by_cases hx : x.size ≤ 1000
    · have hr : (⟨rec, bytesOf x⟩ : Jo.Rc).ok := ⟨hk, by show (bytesOf x).length ≤ 1000; rw [bytesOf_length]; exact hx⟩
      have hlen := h3.len
      have hs := jok_of h2 h3 hn
      obtain ⟨p1, p2⟩ := put_acts j ⟨rec, bytesOf x⟩
      have ha := h3.acts
      have hwn := h3.worn
      rcases h2.put (by omega) hr with ⟨q1, ⟨c', K, q2⟩, q3, q4⟩ | ⟨q1, q2⟩
      · refine (append_good h1 h2.up hs rec x hk hx q1).mono ?_
        rintro e w' ⟨rfl, r1, r2⟩
        refine ⟨0, rfl, .inr ⟨fun W => right_ok rec x W hk hx, hr, r2, .inl ⟨rfl, _, c', K, r1, q2, ⟨by omega, fun q => by have := p2 q; have := hwn q; omega, by rw [List.length_append]; show all.length + 1 ≤ _; omega, q2.oks⟩⟩⟩⟩
      · refine (append_fell h1 h2.up hs rec x hk hx q1).mono ?_
        rintro e w' ⟨rfl, r1, ⟨o, nth, first, next, stop, r2⟩, r3⟩
        refine ⟨14, rfl, .inr ⟨fun W => right_ok rec x W hk hx, hr, r3, .inr ⟨rfl, (j.put ⟨rec, bytesOf x⟩).2.m, o, nth, first, next, stop, ?_⟩⟩⟩
        rcases q2 with q2 | q2
        · exact ⟨_, r1, r2, q2.1, q2.2.2, .inl rfl, by omega, fun q => by have := p2 q; have := hwn q; omega⟩
        · exact ⟨_, r1, r2, q2.1, q2.2.2, .inr rfl, by omega, fun q => by have := p2 q; have := hwn q; omega⟩
    · refine (append_long _ rec x hk (by omega)).mono ?_
      rintro e w' ⟨rfl, f⟩
      exact ⟨2, rfl, .inl ⟨by decide, fun W => right_long rec x W hk (by omega), f⟩⟩
  · have hk' : rec ≠ 1 ∧ rec ≠ 2 := ⟨fun e => hk (.inl e), fun e => hk (.inr e)⟩
    refine (append_kind _ rec x hk').mono ?_
    rintro e w' ⟨rfl, f⟩
    exact ⟨27, rfl, .inl ⟨by decide, fun W => right_kind rec x W hk', f⟩⟩

set_option maxRecDepth 100000 in
set_option maxHeartbeats 8000000 in
theorem step_append {w : World} {base lb n : Nat} {all : List Jo.Rc} (h : Up w base lb n all) (hn : n ≤ 1000000000) (hb : base ≤ lb ∧ base ≤ w.heap.size) (rec : Int) (x : ByteArray) (C : Option Addr) (cl cc : Nat) :
    Calls Tryz.prog 16 #[.pointer (some ⟨lb, 0, none⟩), opV 1 rec x (.slice C cl cc)] w fun e w' => e = .returned (.bool true) ∧ (∃ all', Up w' base lb (n + 1) all' ∨ ∃ r, Dn w' base lb (n + 1) all' r) ∧ Fr (fun k => base ≤ k) w w' := by
  obtain ⟨mb, jb, rg, j, c, L, v, h1, h2, h3, h4, h5, h6, h7, h8⟩ := h.ex
  obtain ⟨A, ca, hv, _, _, _, _⟩ := wide_form h5
  subst hv
  have hlen := h3.len
  have ib : Is (w.alloc (.cells #[.int .i64 1, .int .i64 rec, .string x, .slice C cl cc] 27)) w.heap.size 27 #[.int .i64 1, .int .i64 rec, .string x, .slice C cl cc] := Is.new w _ _
  have fa := (Fr.refl (fun _ => False) w).alloc (.cells #[.int .i64 1, .int .i64 rec, .string x, .slice C cl cc] 27)
  obtain ⟨ob, hob⟩ : ∃ ob, ob = w.heap.size := ⟨_, rfl⟩
  rw [← hob] at ib
  have HLA := Lib.hid (h4.fr fa id)
  have HRA := Lib.hid (h5.fr0 fa)
  have HFA := Lib.hid fa
  have KA := append3 ((h1.fr fa).fr (Fr.refl (fun _ => False) _).drew) h2 h3 hn rec x
  have HJA := Lib.hid (And.intro (h1.fr fa) (And.intro h2 h3))
  have HX := Lib.hid (And.intro hb (And.intro h6 (And.intro h7 h8)))
  have HUP := Lib.hid h2.up
  have HU := Lib.hid h
  clear h h1 h2 h3 h4 h5 h6 h7 h8 fa hb
  go_enter Tryz.func16, Tryz.ntmps16
  unfold opV
  go_upto_region 3 with fail
  rw [← hob]
  clear hob
  generalize w.alloc (.cells #[.int .i64 1, .int .i64 rec, .string x, .slice C cl cc] 27) = w0 at *
  have o1 : w0.cell? ⟨ob, 1, none⟩ = some (.int .i64 rec) := ib.cell 1
  have o2 : w0.cell? ⟨ob, 2, none⟩ = some (.string x) := ib.cell 2
  have l1 : w0.cell? ⟨lb, 1, none⟩ = some (.pointer (some ⟨jb, 0, none⟩)) := HLA.out.cell 1
  have HI := Lib.hid ib
  clear ib
  go_cut [5] from 8 (fun v5 wx => ∃ q, v5 = .int .i64 q ∧ App3 w0.drew wx n all rec x mb jb rg q)
  case first =>
    go_region_with (first | (go_at_call 10; refine KA.mono ?_; rintro e w1 ⟨q, rfl, hq⟩))
    all_goals
      go_wp2_with fail
      go_meet
      case rel => exact ⟨_, rfl, hq⟩
  case rest =>
  obtain ⟨q, rfl, h3⟩ := hcut
  obtain ⟨w1, hw1⟩ : ∃ w1, w1 = wc := ⟨_, rfl⟩
  subst hw1
  clear KA o1 o2 l1
  rcases h3 with ⟨hq, KR, f1⟩ | ⟨KR, hok, f1, h3⟩
  · have f01 : Fr (fun _ => False) w0 w1 := ((Fr.refl (fun _ => False) w0).drew).trans f1 fun _ _ h => h
    have HI1 := Lib.hid (HI.out.fr f01 id)
    have HLA1 := Lib.hid (HLA.out.fr f01 id)
    have HFA1 := Lib.hid (HFA.out.trans f01 fun _ _ h => h)
    have o1 : w1.cell? ⟨ob, 1, none⟩ = some (.int .i64 rec) := HI1.out.cell 1
    have o2 : w1.cell? ⟨ob, 2, none⟩ = some (.string x) := HI1.out.cell 2
    have K4 := KR w1
    have hqb : (q != 0) = true := by simpa using hq
    clear HI HLA HFA f1 f01 KR hq
    go_wp2_with fail
    refine K4.mono ?_
    rintro e w2 ⟨rfl, hw2⟩
    subst hw2
    have HI2 := HI1
    have HL2 := HLA1
    clear HI1 HLA1 o1 o2 K4
    have o1 : w2.cell? ⟨ob, 1, none⟩ = some (.int .i64 rec) := HI2.out.cell 1
    have o2 : w2.cell? ⟨ob, 2, none⟩ = some (.string x) := HI2.out.cell 2
    have l2 : w2.cell? ⟨lb, 2, none⟩ = some (.slice A all.length ca) := HL2.out.cell 2
    have fz := (Fr.refl (fun _ => False) w2).alloc (.cells #[.int .i64 0, .int .i64 0, .string ⟨#[]⟩] 49)
    have o1a : (w2.alloc (.cells #[.int .i64 0, .int .i64 0, .string ⟨#[]⟩] 49)).cell? ⟨ob, 1, none⟩ = some (.int .i64 rec) := (HI2.out.fr fz id).cell 1
    have o2a : (w2.alloc (.cells #[.int .i64 0, .int .i64 0, .string ⟨#[]⟩] 49)).cell? ⟨ob, 2, none⟩ = some (.string x) := (HI2.out.fr fz id).cell 2
    have l2a : (w2.alloc (.cells #[.int .i64 0, .int .i64 0, .string ⟨#[]⟩] 49)).cell? ⟨lb, 2, none⟩ = some (.slice A all.length ca) := (HL2.out.fr fz id).cell 2
    clear fz
    go_upto_region 5 with fail
    go_cut [7] from 8 (fun v7 wx => ∃ rb, v7 = .pointer (some ⟨rb, 0, none⟩) ∧ w2.heap.size ≤ rb ∧ Is wx rb 49 #[.int .i64 ((all.length : Int) + 1), .int .i64 rec, .string x] ∧ Fr (fun _ => False) w2 wx)
    case first =>
      go_region
      go_wp2_with fail
      go_meet
      case rel => exact ⟨_, rfl, Nat.le_refl _, Is.new w2 _ _, ((Fr.refl (fun _ => False) w2).alloc _).drew⟩
    case rest =>
      obtain ⟨rb, rfl, hrb, _, f3⟩ := hcut
      go_wp2_with fail
      go_ret
      exact ⟨rfl, ⟨all, .inl ((HU.out.fr (HFA1.out.trans f3 fun _ _ h => h)).mono (Nat.le_succ n))⟩, (HFA1.out.trans f3 fun _ _ h => h).mono fun _ _ h => h.elim⟩
  · obtain ⟨hJ, hC, hcn⟩ := HJA.out
    have hoo : ¬ Foot mb rg ob := is_off hJ.mem HUP.out HI.out (by decide)
    have hol : ¬ Foot mb rg lb := is_off hJ.mem HUP.out HLA.out (by decide)
    have hoj : ob ≠ jb := is_ne HI.out hJ.jr (by decide)
    have hlj : lb ≠ jb := is_ne HLA.out hJ.jr (by decide)
    have f01 : Fr (fun k => Foot mb rg k ∨ k = jb) w0 w1 := ((Fr.refl (fun k => Foot mb rg k ∨ k = jb) w0).drew).trans f1 fun _ _ h => h
    have HI1 := Lib.hid (HI.out.fr f01 (by rintro (e | e); exact hoo e; exact hoj e))
    have HL1 := Lib.hid (HLA.out.fr f01 (by rintro (e | e); exact hol e; exact hlj e))
    have HR1 := Lib.hid (HRA.out.fr f01 (fun k hk => by
      rintro (e | e)
      · exact row_off hJ.mem HUP.out HRA.out (by decide) k hk e
      · exact wide_is_ne HRA.out hJ.jr (by decide) (e ▸ hk)))
    have HF1 : Hid (Fr (fun k => base ≤ k) w w1) := Lib.hid ((HFA.out.mono fun _ _ h => h.elim).trans f01 (by
      rintro k _ ((e | e) | e)
      · have := HX.out.2.1; omega
      · exact HX.out.2.2.2 k e
      · have := HX.out.2.2.1; omega))
    have o1 : w1.cell? ⟨ob, 1, none⟩ = some (.int .i64 rec) := HI1.out.cell 1
    have o2 : w1.cell? ⟨ob, 2, none⟩ = some (.string x) := HI1.out.cell 2
    have K4 := KR w1
    have H3 := Lib.hid h3
    have HRG : Hid (∀ k, rg = some k → k ≠ lb) := Lib.hid fun k hk e => hol (.inr (by rw [hk, e]))
    have HCL := Lib.hid hcn.len
    have HOK : Hid (∀ y ∈ all ++ [(⟨rec, bytesOf x⟩ : Jo.Rc)], y.ok) := Lib.hid fun y hy => by
      rcases List.mem_append.1 hy with h | h
      · exact hcn.oks y h
      · simp only [List.mem_cons, List.not_mem_nil, or_false] at h
        exact h ▸ hok
    clear HI HLA HRA HFA f1 f01 KR hJ hC hoo hoj hol HJA h3
    go_wp2_with fail
    refine K4.mono ?_
    rintro e w2 ⟨rfl, hw2⟩
    subst hw2
    have HI2 := HI1
    have HL2 := HL1
    clear HI1 HL1 o1 o2 K4
    have o1 : w2.cell? ⟨ob, 1, none⟩ = some (.int .i64 rec) := HI2.out.cell 1
    have o2 : w2.cell? ⟨ob, 2, none⟩ = some (.string x) := HI2.out.cell 2
    have l2 : w2.cell? ⟨lb, 2, none⟩ = some (.slice A all.length ca) := HL2.out.cell 2
    have fz := (Fr.refl (fun _ => False) w2).alloc (.cells #[.int .i64 0, .int .i64 0, .string ⟨#[]⟩] 49)
    have o1a : (w2.alloc (.cells #[.int .i64 0, .int .i64 0, .string ⟨#[]⟩] 49)).cell? ⟨ob, 1, none⟩ = some (.int .i64 rec) := (HI2.out.fr fz id).cell 1
    have o2a : (w2.alloc (.cells #[.int .i64 0, .int .i64 0, .string ⟨#[]⟩] 49)).cell? ⟨ob, 2, none⟩ = some (.string x) := (HI2.out.fr fz id).cell 2
    have l2a : (w2.alloc (.cells #[.int .i64 0, .int .i64 0, .string ⟨#[]⟩] 49)).cell? ⟨lb, 2, none⟩ = some (.slice A all.length ca) := (HL2.out.fr fz id).cell 2
    clear fz
    go_upto_region 5 with fail
    go_cut [7] from 8 (fun v7 wx => ∃ rb, v7 = .pointer (some ⟨rb, 0, none⟩) ∧ w2.heap.size ≤ rb ∧ Is wx rb 49 #[.int .i64 ((all.length : Int) + 1), .int .i64 rec, .string x] ∧ Fr (fun _ => False) w2 wx)
    case first =>
      go_region
      go_wp2_with fail
      go_meet
      case rel => exact ⟨_, rfl, Nat.le_refl _, Is.new w2 _ _, ((Fr.refl (fun _ => False) w2).alloc _).drew⟩
    case rest =>
    obtain ⟨rb, rfl, hrb, i3, f3⟩ := hcut
    obtain ⟨w3, hw3⟩ : ∃ w3, w3 = wc := ⟨_, rfl⟩
    subst hw3
    have HL3 := Lib.hid (HL2.out.fr f3 id)
    have HR3 := Lib.hid (HR1.out.fr0 f3)
    have HF3 := Lib.hid (HF1.out.trans f3 fun _ _ h => h.elim)
    have HI3 := Lib.hid i3
    have HFW := Lib.hid f3
    clear o1 o2 l2 o1a o2a l2a HI2 HL2 HR1 HF1 i3 f3
    rcases H3.out with ⟨rfl, j', c', L', m3, q3, ct3⟩ | ⟨rfl, m, o, nth, first, next, stop, all', m3, jb3, dn, st3, ha3, ac3, wn3⟩
    · have HJ3 := Lib.hid (m3.fr HFW.out)
      have hbw : base ≤ w3.heap.size := by have := HF3.out.size; have := HX.out.1.2; omega
      obtain ⟨i0, hi0, hz0, hz1, hz2⟩ := info_parts Tryz.infoRec
      have fE := (Fr.refl (fun _ => False) w3).alloc (.cells #[] 49)
      have fR := (Fr.refl (fun _ => False) w3).alloc (.cells #[.int .i64 ((all.length : Int) + 1), .int .i64 rec, .string x] 49)
      have fER := fE.alloc (.cells #[.int .i64 ((all.length : Int) + 1), .int .i64 rec, .string x] 49)
      have fRE := fR.alloc (.cells #[] 49)
      have l2w3 : w3.cell? ⟨lb, 2, none⟩ = some (.slice A all.length ca) := HL3.out.cell 2
      have l2E : (w3.alloc (.cells #[] 49)).cell? ⟨lb, 2, none⟩ = some (.slice A all.length ca) := (HL3.out.fr fE id).cell 2
      have l2R : (w3.alloc (.cells #[.int .i64 ((all.length : Int) + 1), .int .i64 rec, .string x] 49)).cell? ⟨lb, 2, none⟩ = some (.slice A all.length ca) := (HL3.out.fr fR id).cell 2
      have l2ER : ((w3.alloc (.cells #[] 49)).alloc (.cells #[.int .i64 ((all.length : Int) + 1), .int .i64 rec, .string x] 49)).cell? ⟨lb, 2, none⟩ = some (.slice A all.length ca) := (HL3.out.fr fER id).cell 2
      have l2RE : ((w3.alloc (.cells #[.int .i64 ((all.length : Int) + 1), .int .i64 rec, .string x] 49)).alloc (.cells #[] 49)).cell? ⟨lb, 2, none⟩ = some (.slice A all.length ca) := (HL3.out.fr fRE id).cell 2
      have g0w3 : w3.cell? ⟨rb, 0, none⟩ = some (.int .i64 ((all.length : Int) + 1)) := HI3.out.cell 0
      have g1w3 : w3.cell? ⟨rb, 1, none⟩ = some (.int .i64 rec) := HI3.out.cell 1
      have g2w3 : w3.cell? ⟨rb, 2, none⟩ = some (.string x) := HI3.out.cell 2
      have g0E : (w3.alloc (.cells #[] 49)).cell? ⟨rb, 0, none⟩ = some (.int .i64 ((all.length : Int) + 1)) := (HI3.out.fr fE id).cell 0
      have g1E : (w3.alloc (.cells #[] 49)).cell? ⟨rb, 1, none⟩ = some (.int .i64 rec) := (HI3.out.fr fE id).cell 1
      have g2E : (w3.alloc (.cells #[] 49)).cell? ⟨rb, 2, none⟩ = some (.string x) := (HI3.out.fr fE id).cell 2
      have OE1 : Hid ((w3.alloc (.cells #[] 49)).drew.ownsRow base 49 3 (.slice (some ⟨w3.heap.size, 0, none⟩) 0 0) 0 []) := Lib.hid (own_empty w3 base 3 49 hbw)
      have OE2 : Hid (((w3.alloc (.cells #[] 49)).alloc (.cells #[.int .i64 ((all.length : Int) + 1), .int .i64 rec, .string x] 49)).drew.ownsRow base 49 3 (.slice (some ⟨w3.heap.size, 0, none⟩) 0 0) 0 []) := Lib.hid (wide_fr (own_empty w3 base 3 49 hbw) ((Fr.refl (fun _ => False) (w3.alloc (.cells #[] 49))).alloc (.cells #[.int .i64 ((all.length : Int) + 1), .int .i64 rec, .string x] 49)).drew fun _ _ => id)
      have OE3 : Hid (((w3.alloc (.cells #[.int .i64 ((all.length : Int) + 1), .int .i64 rec, .string x] 49)).alloc (.cells #[] 49)).drew.ownsRow base 49 3 (.slice (some ⟨(w3.alloc (.cells #[.int .i64 ((all.length : Int) + 1), .int .i64 rec, .string x] 49)).heap.size, 0, none⟩) 0 0) 0 []) := Lib.hid (own_empty (w3.alloc (.cells #[.int .i64 ((all.length : Int) + 1), .int .i64 rec, .string x] 49)) base 3 49 (by simp; omega))
      have RAE : Hid (Rd (w3.alloc (.cells #[] 49)).drew A (recCells 1 all)) := Lib.hid ((wide_rd HR3.out).fr fE.drew fun _ _ => id)
      have RAER : Hid (Rd ((w3.alloc (.cells #[] 49)).alloc (.cells #[.int .i64 ((all.length : Int) + 1), .int .i64 rec, .string x] 49)).drew A (recCells 1 all)) := Lib.hid ((wide_rd HR3.out).fr fER.drew fun _ _ => id)
      have RARE : Hid (Rd ((w3.alloc (.cells #[.int .i64 ((all.length : Int) + 1), .int .i64 rec, .string x] 49)).alloc (.cells #[] 49)).drew A (recCells 1 all)) := Lib.hid ((wide_rd HR3.out).fr fRE.drew fun _ _ => id)
      have hn1 := rec_row w3 base all.length rec x hbw
      have hn2 := rec_row (w3.alloc (.cells #[] 49)) base all.length rec x (by simp; omega)
      have RRre : Hid (Rr ((w3.alloc (.cells #[.int .i64 ((all.length : Int) + 1), .int .i64 rec, .string x] 49)).alloc (.cells #[] 49)).drew base (.slice (some ⟨w3.heap.size, 0, none⟩) 1 1) [⟨rec, bytesOf x⟩] (1 + all.length)) := Lib.hid (hn1.fr0 ((Fr.refl (fun _ => False) (w3.alloc (.cells #[.int .i64 ((all.length : Int) + 1), .int .i64 rec, .string x] 49))).alloc (.cells #[] 49)).drew)
      have RRer : Hid (Rr ((w3.alloc (.cells #[] 49)).alloc (.cells #[.int .i64 ((all.length : Int) + 1), .int .i64 rec, .string x] 49)).drew base (.slice (some ⟨(w3.alloc (.cells #[] 49)).heap.size, 0, none⟩) 1 1) [⟨rec, bytesOf x⟩] (1 + all.length)) := Lib.hid hn2
      clear hn1 hn2
      have HLE := Lib.hid (And.intro (recCells_length all 1) (recCells_length [(⟨rec, bytesOf x⟩ : Jo.Rc)] (1 + all.length)))
      have HON := Lib.hid (And.intro (recCells_one all 1) (recCells_one [(⟨rec, bytesOf x⟩ : Jo.Rc)] (1 + all.length)))
      have hl1 : all.length ≤ 1000000000 := by have := HCL.out; omega
      go_upto_region 9 with fail
      go_cut [] from 8 (fun wx => ∃ v, Lf wx lb mb (.pointer (some ⟨jb, 0, none⟩)) v (.slice none 0 0) ∧ Rr wx base v (all ++ [⟨rec, bytesOf x⟩]) 1 ∧ Fr (fun k => k = lb) w3 wx)
      case first =>
        go_region_law (first
          | (refine step_append_wide _ rfl (.tmp 45) (.tmp 49) 37 rfl base 49 i0 _ 3 32 Tryz.underlying37 hi0 hz0 hz1 hz2 rfl (by decide) (.slice (some ⟨w3.heap.size, 0, none⟩) 0 0) 0 [] (by simp [Act.eval]) OE1.out A ca all.length (recCells 1 all) HLE.out.1 (by simp [Act.eval]) RAE.out HON.out.1 (by unfold maxLen; omega) (by omega) (by have := fE.size; show base ≤ (w3.alloc (.cells #[] 49)).heap.size; omega) ?_; intro v6 w6 hown6 hg6 hat6; obtain ⟨A6, c6, rfl, _, _, _, _⟩ := wide_form hown6; have f6 : Fr (fun _ => False) w3 w6 := (fE.drew).grown hg6 (fun k hk => .inr (by have e : w3.heap.size = k := by { injection hk }; first | omega | (simp at e; omega))); have HGE6 := Lib.hid (row_new2 hat6 (w := w3) (fun k hk => by have e : w3.heap.size = k := by { injection hk }; first | omega | (simp at e; omega)) fE.size); have l26 : w6.cell? ⟨lb, 2, none⟩ = some (.slice A all.length ca) := (HL3.out.fr f6 id).cell 2; have z26 : w6.frozen? ⟨lb, 2, none⟩ = false := (HL3.out.fr f6 id).frozen 2; have g06 : w6.cell? ⟨rb, 0, none⟩ = some (.int .i64 ((all.length : Int) + 1)) := (HI3.out.fr f6 id).cell 0; have g16 : w6.cell? ⟨rb, 1, none⟩ = some (.int .i64 rec) := (HI3.out.fr f6 id).cell 1; have g26 : w6.cell? ⟨rb, 2, none⟩ = some (.string x) := (HI3.out.fr f6 id).cell 2; have HO6 := Lib.hid hown6; have HF6 := Lib.hid f6; have HG6 := Lib.hid hg6; clear hown6 hg6 hat6 f6)
          | (refine step_append_wide _ rfl (.tmp 45) (.tmp 49) 37 rfl base 49 i0 _ 3 32 Tryz.underlying37 hi0 hz0 hz1 hz2 rfl (by decide) (.slice (some ⟨w3.heap.size, 0, none⟩) 0 0) 0 [] (by simp [Act.eval]) OE2.out A ca all.length (recCells 1 all) HLE.out.1 (by simp [Act.eval]) RAER.out HON.out.1 (by unfold maxLen; omega) (by omega) (by have := fER.size; show base ≤ ((w3.alloc (.cells #[] 49)).alloc (.cells #[.int .i64 ((all.length : Int) + 1), .int .i64 rec, .string x] 49)).heap.size; omega) ?_; intro v6 w6 hown6 hg6 hat6; obtain ⟨A6, c6, rfl, _, _, _, _⟩ := wide_form hown6; have f6 : Fr (fun _ => False) w3 w6 := (fER.drew).grown hg6 (fun k hk => .inr (by have e : w3.heap.size = k := by { injection hk }; first | omega | (simp at e; omega))); have HGE6 := Lib.hid (row_new2 hat6 (w := w3) (fun k hk => by have e : w3.heap.size = k := by { injection hk }; first | omega | (simp at e; omega)) fER.size); have l26 : w6.cell? ⟨lb, 2, none⟩ = some (.slice A all.length ca) := (HL3.out.fr f6 id).cell 2; have z26 : w6.frozen? ⟨lb, 2, none⟩ = false := (HL3.out.fr f6 id).frozen 2; have g06 : w6.cell? ⟨rb, 0, none⟩ = some (.int .i64 ((all.length : Int) + 1)) := (HI3.out.fr f6 id).cell 0; have g16 : w6.cell? ⟨rb, 1, none⟩ = some (.int .i64 rec) := (HI3.out.fr f6 id).cell 1; have g26 : w6.cell? ⟨rb, 2, none⟩ = some (.string x) := (HI3.out.fr f6 id).cell 2; have HO6 := Lib.hid hown6; have HF6 := Lib.hid f6; have HG6 := Lib.hid hg6; clear hown6 hg6 hat6 f6)
          | (refine step_append_wide _ rfl (.tmp 45) (.tmp 49) 37 rfl base 49 i0 _ 3 32 Tryz.underlying37 hi0 hz0 hz1 hz2 rfl (by decide) (.slice (some ⟨(w3.alloc (.cells #[.int .i64 ((all.length : Int) + 1), .int .i64 rec, .string x] 49)).heap.size, 0, none⟩) 0 0) 0 [] (by simp [Act.eval]) OE3.out A ca all.length (recCells 1 all) HLE.out.1 (by simp [Act.eval]) RARE.out HON.out.1 (by unfold maxLen; omega) (by omega) (by have := fRE.size; show base ≤ ((w3.alloc (.cells #[.int .i64 ((all.length : Int) + 1), .int .i64 rec, .string x] 49)).alloc (.cells #[] 49)).heap.size; omega) ?_; intro v6 w6 hown6 hg6 hat6; obtain ⟨A6, c6, rfl, _, _, _, _⟩ := wide_form hown6; have f6 : Fr (fun _ => False) w3 w6 := (fRE.drew).grown hg6 (fun k hk => .inr (by have e : (w3.alloc (.cells #[.int .i64 ((all.length : Int) + 1), .int .i64 rec, .string x] 49)).heap.size = k := by { injection hk }; first | omega | (simp at e; omega))); have HGE6 := Lib.hid (row_new2 hat6 (w := w3) (fun k hk => by have e : (w3.alloc (.cells #[.int .i64 ((all.length : Int) + 1), .int .i64 rec, .string x] 49)).heap.size = k := by { injection hk }; first | omega | (simp at e; omega)) fRE.size); have l26 : w6.cell? ⟨lb, 2, none⟩ = some (.slice A all.length ca) := (HL3.out.fr f6 id).cell 2; have z26 : w6.frozen? ⟨lb, 2, none⟩ = false := (HL3.out.fr f6 id).frozen 2; have g06 : w6.cell? ⟨rb, 0, none⟩ = some (.int .i64 ((all.length : Int) + 1)) := (HI3.out.fr f6 id).cell 0; have g16 : w6.cell? ⟨rb, 1, none⟩ = some (.int .i64 rec) := (HI3.out.fr f6 id).cell 1; have g26 : w6.cell? ⟨rb, 2, none⟩ = some (.string x) := (HI3.out.fr f6 id).cell 2; have HO6 := Lib.hid hown6; have HF6 := Lib.hid f6; have HG6 := Lib.hid hg6; clear hown6 hg6 hat6 f6)
          | (refine step_append_wide _ rfl (.tmp 50) (.tmp 52) 37 rfl base 49 i0 _ 3 32 Tryz.underlying37 hi0 hz0 hz1 hz2 rfl (by decide) (.slice A6 (0 + all.length) c6) (0 + all.length) ([] ++ recCells 1 all) (by simp [Act.eval]) HO6.out (some ⟨(w3.alloc (.cells #[] 49)).heap.size, 0, none⟩) 1 1 (recCells (1 + all.length) [⟨rec, bytesOf x⟩]) HLE.out.2 (by simp [Act.eval]) (wide_rd (RRer.out.fr ((Fr.refl (fun k => k = w3.heap.size) ((w3.alloc (.cells #[] 49)).alloc (.cells #[.int .i64 ((all.length : Int) + 1), .int .i64 rec, .string x] 49)).drew).grown HG6.out (fun k hk => .inl (by have e : w3.heap.size = k := by { injection hk }; omega))) (fun k hk e => by have e2 : (w3.alloc (.cells #[] 49)).heap.size = k := by { injection hk }; first | omega | (simp at e2; omega)))) HON.out.2 (by unfold maxLen; omega) (by omega) (by have := HF6.out.size; show base ≤ w6.heap.size; first | omega | (simp; omega)) ?_; intro v7 w7 hown7 hg7 hat7; obtain ⟨A7, c7, rfl, _, _, _, _⟩ := wide_form hown7; have f7 : Fr (fun _ => False) w3 w7 := (HF6.out).grown hg7 (fun k hk => .inr (HGE6.out k hk)); have l27 : w7.cell? ⟨lb, 2, none⟩ = some (.slice A all.length ca) := (HL3.out.fr f7 id).cell 2; have z27 : w7.frozen? ⟨lb, 2, none⟩ = false := (HL3.out.fr f7 id).frozen 2; have HO7 := Lib.hid hown7; have HF7 := Lib.hid f7; clear hown7 hg7 hat7 f7)
          | (refine step_append_wide _ rfl (.tmp 50) (.tmp 52) 37 rfl base 49 i0 _ 3 32 Tryz.underlying37 hi0 hz0 hz1 hz2 rfl (by decide) (.slice A6 (0 + all.length) c6) (0 + all.length) ([] ++ recCells 1 all) (by simp [Act.eval]) HO6.out (some ⟨w3.heap.size, 0, none⟩) 1 1 (recCells (1 + all.length) [⟨rec, bytesOf x⟩]) HLE.out.2 (by simp [Act.eval]) (wide_rd (RRre.out.fr ((Fr.refl (fun k => k = w3.heap.size + 1) ((w3.alloc (.cells #[.int .i64 ((all.length : Int) + 1), .int .i64 rec, .string x] 49)).alloc (.cells #[] 49)).drew).grown HG6.out (fun k hk => .inl (by have e : (w3.alloc (.cells #[.int .i64 ((all.length : Int) + 1), .int .i64 rec, .string x] 49)).heap.size = k := by { injection hk }; first | omega | (simp at e; omega)))) (fun k hk e => by have e2 : w3.heap.size = k := by { injection hk }; omega))) HON.out.2 (by unfold maxLen; omega) (by omega) (by have := HF6.out.size; show base ≤ w6.heap.size; first | omega | (simp; omega)) ?_; intro v7 w7 hown7 hg7 hat7; obtain ⟨A7, c7, rfl, _, _, _, _⟩ := wide_form hown7; have f7 : Fr (fun _ => False) w3 w7 := (HF6.out).grown hg7 (fun k hk => .inr (HGE6.out k hk)); have l27 : w7.cell? ⟨lb, 2, none⟩ = some (.slice A all.length ca) := (HL3.out.fr f7 id).cell 2; have z27 : w7.frozen? ⟨lb, 2, none⟩ = false := (HL3.out.fr f7 id).frozen 2; have HO7 := Lib.hid hown7; have HF7 := Lib.hid f7; clear hown7 hg7 hat7 f7)
          | (refine step_append_wide _ rfl (.tmp 50) (.tmp 52) 37 rfl base 49 i0 _ 3 32 Tryz.underlying37 hi0 hz0 hz1 hz2 rfl (by decide) (.slice A6 (0 + all.length) c6) (0 + all.length) ([] ++ recCells 1 all) (by simp [Act.eval]) (wide_fr HO6.out (((Fr.refl (fun _ => False) w6).alloc (.cells #[.int .i64 ((all.length : Int) + 1), .int .i64 rec, .string x] 49)).drew) fun _ _ => id) (some ⟨w6.heap.size, 0, none⟩) 1 1 (recCells (1 + all.length) [⟨rec, bytesOf x⟩]) HLE.out.2 (by simp [Act.eval]) ((wide_rd (rec_row w6 base all.length rec x (by have := HF6.out.size; omega))).fr (Fr.refl (fun _ => False) (w6.alloc (.cells #[.int .i64 ((all.length : Int) + 1), .int .i64 rec, .string x] 49))).drew fun _ _ => id) HON.out.2 (by unfold maxLen; omega) (by omega) (by have := HF6.out.size; show base ≤ (w6.alloc (.cells #[.int .i64 ((all.length : Int) + 1), .int .i64 rec, .string x] 49)).heap.size; first | omega | (simp; omega)) ?_; intro v7 w7 hown7 hg7 hat7; obtain ⟨A7, c7, rfl, _, _, _, _⟩ := wide_form hown7; have f7 : Fr (fun _ => False) w3 w7 := ((HF6.out.alloc (.cells #[.int .i64 ((all.length : Int) + 1), .int .i64 rec, .string x] 49)).drew).grown hg7 (fun k hk => .inr (HGE6.out k hk)); have l27 : w7.cell? ⟨lb, 2, none⟩ = some (.slice A all.length ca) := (HL3.out.fr f7 id).cell 2; have z27 : w7.frozen? ⟨lb, 2, none⟩ = false := (HL3.out.fr f7 id).frozen 2; have HO7 := Lib.hid hown7; have HF7 := Lib.hid f7; clear hown7 hg7 hat7 f7)
          | (refine step_append_wide _ rfl (.tmp 50) (.tmp 52) 37 rfl base 49 i0 _ 3 32 Tryz.underlying37 hi0 hz0 hz1 hz2 rfl (by decide) (.slice A6 (0 + all.length) c6) (0 + all.length) ([] ++ recCells 1 all) (by simp [Act.eval]) (wide_fr HO6.out ((Fr.refl (fun _ => False) w6).alloc (.cells #[.int .i64 ((all.length : Int) + 1), .int .i64 rec, .string x] 49)) fun _ _ => id) (some ⟨w6.heap.size, 0, none⟩) 1 1 (recCells (1 + all.length) [⟨rec, bytesOf x⟩]) HLE.out.2 (by simp [Act.eval]) (wide_rd (rec_row w6 base all.length rec x (by have := HF6.out.size; omega))) HON.out.2 (by unfold maxLen; omega) (by omega) (by have := HF6.out.size; show base ≤ (w6.alloc (.cells #[.int .i64 ((all.length : Int) + 1), .int .i64 rec, .string x] 49)).heap.size; first | omega | (simp; omega)) ?_; intro v7 w7 hown7 hg7 hat7; obtain ⟨A7, c7, rfl, _, _, _, _⟩ := wide_form hown7; have f7 : Fr (fun _ => False) w3 w7 := ((HF6.out.alloc (.cells #[.int .i64 ((all.length : Int) + 1), .int .i64 rec, .string x] 49))).grown hg7 (fun k hk => .inr (HGE6.out k hk)); have l27 : w7.cell? ⟨lb, 2, none⟩ = some (.slice A all.length ca) := (HL3.out.fr f7 id).cell 2; have z27 : w7.frozen? ⟨lb, 2, none⟩ = false := (HL3.out.fr f7 id).frozen 2; have HO7 := Lib.hid hown7; have HF7 := Lib.hid f7; clear hown7 hg7 hat7 f7))
        all_goals
          go_wp2_with fail
          go_meet
          case rel =>
            have h := app_end HL3.out HF7.out HO7.out
            simp only [Nat.zero_add] at h
            exact ⟨_, h⟩
      case rest =>
      obtain ⟨v, hl4, hr4, f4⟩ := hcut
      obtain ⟨w4, hw4⟩ : ∃ w4, w4 = wc := ⟨_, rfl⟩
      subst hw4
      have hrbl : rb ≠ lb := is_ne HI3.out HL3.out (by decide)
      have hlf : ¬ Foot mb rg lb := is_off HJ3.out.mem q3.up HL3.out (by decide)
      have HJ4 := Lib.hid (HJ3.out.frl f4 (fun e => hlj e.symm) hlf)
      have HI4 := Lib.hid (HI3.out.fr f4 hrbl)
      have HF4 := Lib.hid (HF3.out.trans f4 fun k _ e => by have := HX.out.1.1; omega)
      have hnx : (j'.next : Int) = (all.length : Int) + 1 + 1 := by have := q3.next; rw [List.length_append] at this; simp at this; omega
      have x0 : ∀ u : Fro w4, u.w.cell? ⟨lb, 0, none⟩ = some (.pointer (some ⟨mb, 0, none⟩)) := cell_fro (hl4.cell 0)
      have x1 : ∀ u : Fro w4, u.w.cell? ⟨lb, 1, none⟩ = some (.pointer (some ⟨jb, 0, none⟩)) := cell_fro (hl4.cell 1)
      have y0 : ∀ u : Fro w4, u.w.cell? ⟨rb, 0, none⟩ = some (.int .i64 ((all.length : Int) + 1)) := cell_fro (HI4.out.cell 0)
      have QD := fun u : Fro w4 => down_at (HJ4.out.mem.none u.f) q3.up
      have QN := fun u : Fro w4 => nextj_any (HJ4.out.jr.fr u.f id)
      rw [hnx] at QN
      have HC4 := Lib.hid (And.intro q3 ct3)
      have HL4 := Lib.hid hl4
      have HR4 := Lib.hid hr4
      clear HL3 HR3 HF3 HI3 HJ3 HFW H3 m3 q3 ct3 hl4 hr4 f4 hnx fE fR fER fRE OE1 OE2 OE3 RAE RAER RARE RRre RRer HLE HON l2w3 l2E l2R l2ER l2RE g0w3 g1w3 g2w3 g0E g1E g2E hrbl hlf
      go_upto_region 10 with fail
      refine region_fro (by kernel_rfl) (by kernel_rfl) ?_
      repeat (go_big_quiet_step (first
        | (go_at_call 15; with_reducible exact call_fro_same (QD _))
        | (go_at_call 13; with_reducible exact call_fro_same (QN _))))
      refine wpQuiet_nil ?_
      rintro w5 ⟨⟨w9, f5⟩, hww⟩
      replace hww : w5 = w9 := hww
      subst hww
      clear x0 x1 y0 QD QN
      go_wp2_with fail
      go_ret
      exact ⟨rfl, ⟨all ++ [⟨rec, bytesOf x⟩], .inl ⟨mb, jb, rg, j', c', L', v, HJ4.out.fr f5, HC4.out.1, HC4.out.2, HL4.out.fr f5 id, HR4.out.fr0 f5, HX.out.2⟩⟩, HF4.out.trans f5 fun _ _ h => h.elim⟩
    · have HM3 := Lib.hid (m3.none HFW.out)
      have HJ3 := Lib.hid (jb3.fr HFW.out id)
      have g0 : w3.cell? ⟨rb, 0, none⟩ = some (.int .i64 ((all.length : Int) + 1)) := HI3.out.cell 0
      have g1 : w3.cell? ⟨rb, 1, none⟩ = some (.int .i64 rec) := HI3.out.cell 1
      have g2 : w3.cell? ⟨rb, 2, none⟩ = some (.string x) := HI3.out.cell 2
      have fR := (Fr.refl (fun _ => False) w3).alloc (.cells #[.int .i64 ((all.length : Int) + 1), .int .i64 rec, .string x] 49)
      have hRr := rec_row w3 base all.length rec x (by have := HF3.out.size; have := HX.out.1.2; omega)
      have HLR := Lib.hid (HL3.out.fr fR id)
      have HRR := Lib.hid (HR3.out.fr0 fR)
      have HMR := Lib.hid (HM3.out.none fR)
      have HJR := Lib.hid (HJ3.out.fr fR id)
      have HFR := Lib.hid (HF3.out.trans fR fun _ _ h => h.elim)
      have HNR := Lib.hid hRr
      clear m3 jb3 H3 fR hRr HL3 HR3 HM3 HJ3 HF3
      go_upto_region 11 with fail
      have y3 : (w3.alloc (.cells #[.int .i64 ((all.length : Int) + 1), .int .i64 rec, .string x] 49)).cell? ⟨lb, 3, none⟩ = some (.slice none 0 0) := HLR.out.cell 3
      have z3 : (w3.alloc (.cells #[.int .i64 ((all.length : Int) + 1), .int .i64 rec, .string x] 49)).frozen? ⟨lb, 3, none⟩ = false := HLR.out.frozen 3
      go_upto_region 12 with fail
      obtain ⟨nb, hnb⟩ : ∃ nb, nb = w3.heap.size := ⟨_, rfl⟩
      rw [← hnb] at HNR ⊢
      clear hnb g0 g1 g2
      generalize w3.alloc (.cells #[.int .i64 ((all.length : Int) + 1), .int .i64 rec, .string x] 49) = w4 at *
      have hl5 : Lf (w4.setCell ⟨lb, 3, none⟩ (.slice (some ⟨nb, 0, none⟩) 1 1)) lb mb (.pointer (some ⟨jb, 0, none⟩)) (.slice A all.length ca) (.slice (some ⟨nb, 0, none⟩) 1 1) := by
        have := HLR.out.set 3 (.slice (some ⟨nb, 0, none⟩) 1 1)
        simpa [Lf] using this
      have f5 := (Fr.refl (fun k => k = lb) w4).setCell (p := ⟨lb, 3, none⟩) (.inl rfl) (.slice (some ⟨nb, 0, none⟩) 1 1)
      obtain ⟨csm, hms⟩ := mem_is HMR.out
      have hlm : lb ≠ mb := is_ne HLR.out hms (by decide)
      have HL5 := Lib.hid hl5
      have HR5 := Lib.hid (HRR.out.fr f5 fun k hk e => wide_is_ne HRR.out HLR.out (by decide) (e ▸ hk))
      have HN5 := Lib.hid (HNR.out.fr f5 fun k hk e => wide_is_ne HNR.out HLR.out (by decide) (e ▸ hk))
      have HM5 := Lib.hid (HMR.out.fr f5 (fun e => hlm e.symm) fun k hk e => HRG.out k hk e)
      have HJ5 := Lib.hid (HJR.out.fr f5 fun e => hlj e.symm)
      have HF5 := Lib.hid (HFR.out.trans f5 fun k _ e => by have := HX.out.1.1; omega)
      clear y3 z3 hl5 f5 HLR HRR HNR HMR HJR HFR hms hlm
      generalize w4.setCell ⟨lb, 3, none⟩ (.slice (some ⟨nb, 0, none⟩) 1 1) = w5 at *
      have KM := down_at HM5.out dn
      have KJ := downj_any HJ5.out HM5.out
      have m0 : w5.cell? ⟨lb, 0, none⟩ = some (.pointer (some ⟨mb, 0, none⟩)) := HL5.out.cell 0
      have m1 : w5.cell? ⟨lb, 1, none⟩ = some (.pointer (some ⟨jb, 0, none⟩)) := HL5.out.cell 1
      go_wp2_with (first | (go_at_call 15; refine KM.mono ?_; rintro e w6 ⟨rfl, rfl⟩) | (go_at_call 22; refine KJ.mono ?_; rintro e w7 ⟨rfl, f7⟩))
      go_ret
      exact ⟨rfl, ⟨all, .inr ⟨⟨rec, bytesOf x⟩, mb, rg, m, _, _, _, all', HM5.out.none f7, dn, st3, ha3, ac3, wn3, by have := HCL.out; omega, HOK.out, HL5.out.fr f7 id, HR5.out.fr0 f7, HN5.out.fr0 f7, HX.out.2.1⟩⟩, HF5.out.trans f7 fun _ _ h => h.elim⟩
end Go.Proofs.YtdoljggaoidljaaGreat
/- A script's journal: the other steps, and all of them. -/
namespace Go.Proofs.YtdoljggaoidljaaGreat
open Go.RowKit

/-- a script's operation, and how its cuts lie -/
structure Oj where
  kind : Int
  rk : Int
  x : ByteArray
  C : Option Addr
  cc : Nat
  cuts : List (Int × Int)
def Oj.val (o : Oj) : Value := opV o.kind o.rk o.x (.slice o.C o.cuts.length o.cc)
/-- its cuts lie below base -/
structure Oj.ok (o : Oj) (w : World) (base : Nat) : Prop where
  rd : Rd w o.C (cutCells o.cuts)
  lo : 0 < o.cuts.length → ∀ k, blk o.C = some k → k < base
  len : o.cuts.length ≤ 140737488355328
  wf : ∀ x ∈ o.cuts, (ki x.1).wf = true ∧ (ki x.2).wf = true
theorem Oj.ok.fr {o : Oj} {w w1 : World} {base : Nat} (h : o.ok w base) (f : Fr (fun k => base ≤ k) w w1) : o.ok w1 base := ⟨fun h0 => h.rd.fr f (fun k hk => by have h9 := h.lo (by rw [cutCells_length] at h0; omega) k hk; omega) h0, h.lo, h.len, h.wf⟩

set_option maxRecDepth 100000 in
set_option maxHeartbeats 4000000 in
theorem step_other {w : World} {base lb n : Nat} {all : List Jo.Rc} (h : Up w base lb n all) (o : Oj) (hk : o.kind ≠ 1 ∧ o.kind ≠ 2 ∧ o.kind ≠ 3 ∧ o.kind ≠ 4) :
    Calls Tryz.prog 16 #[.pointer (some ⟨lb, 0, none⟩), o.val] w fun e w' => e = .returned (.bool true) ∧ Up w' base lb n all ∧ Fr (fun k => base ≤ k) w w' := by
  obtain ⟨kd, rec, x, C, cc, cuts⟩ := o
  obtain ⟨k1, k2, k3, k4⟩ := hk
  simp only at k1 k2 k3 k4
  have q1 : (kd == 1) = false := by simpa using k1
  have q2 : (kd == 2) = false := by simpa using k2
  have q3 : (kd == 3) = false := by simpa using k3
  have q4 : (kd == 4) = false := by simpa using k4
  have f0 := (Fr.refl (fun _ => False) w).alloc (.cells #[.int .i64 kd, .int .i64 rec, .string x, .slice C cuts.length cc] 27)
  have HU := Lib.hid (h.fr f0)
  have HF := Lib.hid f0
  clear f0 h k1 k2 k3 k4
  go_enter Tryz.func16, Tryz.ntmps16
  unfold Oj.val opV
  go_wp2_with fail
  go_ret
  exact ⟨rfl, HU.out, HF.out.mono fun _ _ h => h.elim⟩

set_option maxRecDepth 100000 in
set_option maxHeartbeats 4000000 in
theorem step_arm {w : World} {base lb n : Nat} {all : List Jo.Rc} (h : Up w base lb n all) (hb : base ≤ w.heap.size) (o : Oj) (hk : o.kind = 2) (ho : o.ok w base) :
    Calls Tryz.prog 16 #[.pointer (some ⟨lb, 0, none⟩), o.val] w fun e w' => e = .returned (.bool true) ∧ Up w' base lb n all ∧ Fr (fun k => base ≤ k) w w' := by
  obtain ⟨kd, rec, x, C, cc, cuts⟩ := o
  simp only at hk
  subst hk
  obtain ⟨mb, jb, rg, j, c, L, v, h1, h2, h3, h4, h5, h6, h7, h8⟩ := h.ex
  have ib : Is (w.alloc (.cells #[.int .i64 2, .int .i64 rec, .string x, .slice C cuts.length cc] 27)) w.heap.size 27 #[.int .i64 2, .int .i64 rec, .string x, .slice C cuts.length cc] := Is.new w _ _
  have fa := (Fr.refl (fun _ => False) w).alloc (.cells #[.int .i64 2, .int .i64 rec, .string x, .slice C cuts.length cc] 27)
  obtain ⟨ob, hob⟩ : ∃ ob, ob = w.heap.size := ⟨_, rfl⟩
  rw [← hob] at ib
  have hcm : 0 < cuts.length → blk C ≠ some mb := fun h0 e => by have h9 : mb < base := ho.lo h0 mb e; omega
  have KA := arm_any (c := cc) ((h1.fr fa).mem.none (Fr.refl (fun _ => False) _).drew) (ho.rd.fr fa.drew fun _ _ => id) hcm ho.len ho.wf
  have HL := Lib.hid (h4.fr fa id)
  have HR := Lib.hid (h5.fr0 fa)
  have HJ := Lib.hid (h1.fr fa)
  have HF := Lib.hid fa
  have HX := Lib.hid (And.intro h2 (And.intro h3 (And.intro h6 (And.intro h7 h8))))
  have HB := Lib.hid hb
  clear h h1 h2 h3 h4 h5 h6 h7 h8 fa hb hcm ho
  go_enter Tryz.func16, Tryz.ntmps16
  unfold Oj.val opV
  go_upto_region 14 with fail
  rw [← hob]
  clear hob
  generalize w.alloc (.cells #[.int .i64 2, .int .i64 rec, .string x, .slice C cuts.length cc] 27) = w0 at *
  have l0 : w0.cell? ⟨lb, 0, none⟩ = some (.pointer (some ⟨mb, 0, none⟩)) := HL.out.cell 0
  have o3 : w0.cell? ⟨ob, 3, none⟩ = some (.slice C cuts.length cc) := ib.cell 3
  have HI := Lib.hid ib
  clear ib
  go_region_with (first | (go_at_call 25; refine KA.mono ?_; rintro e w1 ⟨rfl, hm, hf⟩))
  all_goals
    have f1 : Fr (fun k => k = mb) w0 w1 := ((Fr.refl (fun k => k = mb) w0).drew).trans hf fun _ _ h => h
    have HMM : Hid (∃ m', (m'.pg = j.m.pg ∧ m'.down = j.m.down ∧ m'.acts = j.m.acts ∧ m'.worn = j.m.worn) ∧ Mem w1 mb (some w0.heap.size) m') := Lib.hid ⟨j.m.arm fun i => cutAt cuts i, ⟨rfl, rfl, rfl, rfl⟩, hm⟩
    obtain ⟨m', ⟨e1, e2, e3, e4⟩, hm⟩ := HMM.out
    have hlm : lb ≠ mb := by
      obtain ⟨cs, hi⟩ := mem_is HJ.out.mem
      exact is_ne HL.out hi (by decide)
    have hjm : jb ≠ mb := by
      obtain ⟨cs, hi⟩ := mem_is HJ.out.mem
      exact is_ne HJ.out.jr hi (by decide)
    have hjw : jb < w0.heap.size := HJ.out.jr.lt
    have HUU : Hid (Up w1 base lb n all) := Lib.hid (by
      obtain ⟨h2, h3, h6, h7, h8⟩ := HX.out
      refine ⟨mb, jb, some w0.heap.size, { j with m := m' }, c, L, v, ⟨hm, HJ.out.jr.fr f1 hjm, ?_⟩, ⟨?_, h2.nth, h2.first, h2.next, h2.stop, h2.o, e2.trans h2.up, h2.oks⟩, ⟨by show m'.acts ≤ _; rw [e3]; exact h3.acts, fun q => by show m'.worn q ≤ _; rw [e4]; exact h3.worn q, h3.len, h3.oks⟩, HL.out.fr f1 hlm, HR.out.frm HJ.out.mem f1, h6, h7, fun k hk => ?_⟩
      · rintro (e | e)
        · exact hjm e
        · have : w0.heap.size = jb := by injection e
          omega
      · show Jo.St m'.pg all c L
        rw [e1]
        exact h2.st
      · have e : w0.heap.size = k := by injection hk
        have := HB.out
        omega)
    have HFF : Hid (Fr (fun k => base ≤ k) w w1) := Lib.hid ((HF.out.mono fun _ _ h => h.elim).trans f1 fun k _ e => by have := HX.out.2.2.1; omega)
    clear hm f1 l0 o3 KA
    go_wp2_with fail
    go_ret
    exact ⟨rfl, HUU.out, HFF.out⟩

set_option maxRecDepth 100000 in
set_option maxHeartbeats 4000000 in
theorem step_back {w : World} {base lb mb n : Nat} {rg : Option Nat} {m : Mm} {jv va vu : Value} {all und all' : List Jo.Rc} (o : Oj) (hk : o.kind = 3) (ho : o.ok w base)
    (hL : Lf w lb mb jv va vu) (hA : Rr w base va all 1) (hU : Rr w base vu und (1 + all.length)) (hM : Mem w mb rg m) (hst : ∃ c L, Jo.St m.pg all' c L) (hw : ∀ q, m.worn q ≤ 4 * n) (hln : all'.length ≤ n) (hoks : ∀ r ∈ all', r.ok)
    (h1 : (all ++ und).take all'.length = all') (h2 : all.length ≤ all'.length) (h3 : all'.length ≤ (all ++ und).length) (h4 : (all ++ und).length ≤ 2147483000) (hb : base ≤ lb ∧ base ≤ w.heap.size) :
    Calls Tryz.prog 16 #[.pointer (some ⟨lb, 0, none⟩), o.val] w fun e w' => e = .returned (.bool true) ∧ Up w' base lb n all' ∧ Fr (fun k => base ≤ k) w w' := by
  obtain ⟨kd, rec, x, C, cc, cuts⟩ := o
  simp only at hk
  subst hk
  have ib : Is (w.alloc (.cells #[.int .i64 3, .int .i64 rec, .string x, .slice C cuts.length cc] 27)) w.heap.size 27 #[.int .i64 3, .int .i64 rec, .string x, .slice C cuts.length cc] := Is.new w _ _
  have fa := (Fr.refl (fun _ => False) w).alloc (.cells #[.int .i64 3, .int .i64 rec, .string x, .slice C cuts.length cc] 27)
  obtain ⟨ob, hob⟩ : ∃ ob, ob = w.heap.size := ⟨_, rfl⟩
  rw [← hob] at ib
  have HI := Lib.hid ib
  have HL := Lib.hid (hL.fr fa id)
  have HA := Lib.hid (hA.fr0 fa)
  have HU := Lib.hid (hU.fr0 fa)
  have HO := Lib.hid (ho.fr (fa.mono (S' := fun k => base ≤ k) fun _ _ h => h.elim))
  have KG := again_any (hM.none fa)
  have HF := Lib.hid fa
  have HH := Lib.hid (And.intro h1 (And.intro h2 (And.intro h3 (And.intro h4 hb))))
  have HST := Lib.hid hst
  have HCN : Hid (Cnt m.again n all') := Lib.hid ⟨Nat.zero_le _, hw, hln, hoks⟩
  have l0 : (w.alloc (.cells #[.int .i64 3, .int .i64 rec, .string x, .slice C cuts.length cc] 27)).cell? ⟨lb, 0, none⟩ = some (.pointer (some ⟨mb, 0, none⟩)) := HL.out.cell 0
  have hbs : base ≤ (w.alloc (.cells #[.int .i64 3, .int .i64 rec, .string x, .slice C cuts.length cc] 27)).heap.size := by have := hb.2; simp; omega
  clear hL hA hU hM hst hw hln hoks h1 h2 h3 h4 fa ib ho
  go_enter Tryz.func16, Tryz.ntmps16
  unfold Oj.val opV
  go_upto_region 16 with fail
  rw [← hob]
  generalize w.alloc (.cells #[.int .i64 3, .int .i64 rec, .string x, .slice C cuts.length cc] 27) = w0 at *
  go_wp2_with fail
  refine KG.mono ?_
  rintro e w1 ⟨rfl, m1, f1⟩
  obtain ⟨nb, hnb⟩ : ∃ nb, nb = w0.heap.size := ⟨_, rfl⟩
  rw [← hnb] at m1 ⊢
  have hl1 := HL.out.fr f1 id
  have z0 : w1.frozen? ⟨lb, 0, none⟩ = false := hl1.frozen 0
  have y0 : w1.cell? ⟨lb, 0, none⟩ = some (.pointer (some ⟨mb, 0, none⟩)) := hl1.cell 0
  have hl2 : Lf (w1.setCell ⟨lb, 0, none⟩ (.pointer (some ⟨nb, 0, none⟩))) lb nb jv va vu := by
    have := hl1.set 0 (.pointer (some ⟨nb, 0, none⟩))
    simpa [Lf] using this
  have f2 := (Fr.refl (fun k => k = lb) w1).setCell (p := ⟨lb, 0, none⟩) (.inl rfl) (.pointer (some ⟨nb, 0, none⟩))
  have hln : lb ≠ nb := by
    obtain ⟨cs, hi⟩ := mem_is m1
    exact is_ne hl1 hi (by decide)
  have hol : ob ≠ lb := is_ne HI.out HL.out (by decide)
  have hnb0 : base ≤ nb := by omega
  have HL2 := Lib.hid hl2
  have HM2 := Lib.hid (m1.fr f2 (fun e => hln e.symm) fun k hk => by cases hk)
  have HA2 := Lib.hid ((HA.out.fr0 f1).fr f2 fun k hk e => wide_is_ne (HA.out.fr0 f1) hl1 (by decide) (e ▸ hk))
  have HU2 := Lib.hid ((HU.out.fr0 f1).fr f2 fun k hk e => wide_is_ne (HU.out.fr0 f1) hl1 (by decide) (e ▸ hk))
  have f12 : Fr (fun k => base ≤ k) w0 (w1.setCell ⟨lb, 0, none⟩ (.pointer (some ⟨nb, 0, none⟩))) := (f1.mono fun _ _ h => h.elim).trans f2 fun k _ e => by have := HH.out.2.2.2.2.1; omega
  have HO2 := Lib.hid (HO.out.fr f12)
  have HI2 := Lib.hid ((HI.out.fr f1 id).fr f2 hol)
  have HF2 := Lib.hid ((HF.out.mono (S' := fun k => base ≤ k) fun _ _ h => h.elim).trans f12 fun _ _ h => h)
  have hbs2 : base ≤ (w1.setCell ⟨lb, 0, none⟩ (.pointer (some ⟨nb, 0, none⟩))).heap.size := Nat.le_trans hbs f12.size
  clear KG HL HA HU HI HF HO f1 m1 hl1 hl2 f2 f12 l0 hnb hob
  go_upto_region 17 with fail
  generalize w1.setCell ⟨lb, 0, none⟩ (.pointer (some ⟨nb, 0, none⟩)) = w2 at *
  clear z0 y0
  obtain ⟨g1, g2, g3, g4, g5, _⟩ := HH.out
  have KO := lopen_any (cc := cc) HL2.out HA2.out HU2.out HM2.out (show m.again.down = false from rfl) (show ∃ c L, Jo.St m.again.pg all' c L from HST.out) HCN.out g1 g2 g3 g4 ⟨g5, hnb0, hbs2⟩ HO2.out.rd (fun h0 e => by have h9 : nb < base := HO2.out.lo h0 nb e; omega) HO2.out.len HO2.out.wf
  have l0 : w2.cell? ⟨lb, 0, none⟩ = some (.pointer (some ⟨nb, 0, none⟩)) := HL2.out.cell 0
  have o3 : w2.cell? ⟨ob, 3, none⟩ = some (.slice C cuts.length cc) := HI2.out.cell 3
  simp only at KO
  clear HL2 HA2 HU2 HM2 HO2 HI2
  go_wp2_with fail
  refine KO.mono ?_
  rintro e w3 ⟨rfl, hu, f3⟩
  have HUU := Lib.hid hu
  have HFF := Lib.hid (HF2.out.trans f3 fun _ _ h => h)
  clear KO hu f3 l0 o3
  go_wp2_with fail
  go_ret
  exact ⟨rfl, HUU.out, HFF.out⟩

set_option maxRecDepth 100000 in
set_option maxHeartbeats 4000000 in
theorem step_reopen {w : World} {base lb n : Nat} {all : List Jo.Rc} (h : Up w base lb n all) (hn : n ≤ 1000000000) (hb : base ≤ lb ∧ base ≤ w.heap.size) (o : Oj) (hk : o.kind = 4) :
    Calls Tryz.prog 16 #[.pointer (some ⟨lb, 0, none⟩), o.val] w fun e w' => e = .returned (.bool true) ∧ Up w' base lb n all ∧ Fr (fun k => base ≤ k) w w' := by
  obtain ⟨kd, rec, x, C, cc, cuts⟩ := o
  simp only at hk
  subst hk
  obtain ⟨mb, jb, rg, j, c, L, v, h1, h2, h3, h4, h5, h6, h7, h8⟩ := h.ex
  have fa := (Fr.refl (fun _ => False) w).alloc (.cells #[.int .i64 4, .int .i64 rec, .string x, .slice C cuts.length cc] 27)
  have KD := disarm_any (h1.fr fa) h2
  have HL := Lib.hid (h4.fr fa id)
  have HR := Lib.hid (h5.fr0 fa)
  have HJ := Lib.hid (h1.fr fa)
  have HF := Lib.hid fa
  have HX := Lib.hid (And.intro h2 (And.intro h3 (And.intro h6 (And.intro h7 h8))))
  have HB := Lib.hid hb
  have l0 : (w.alloc (.cells #[.int .i64 4, .int .i64 rec, .string x, .slice C cuts.length cc] 27)).cell? ⟨lb, 0, none⟩ = some (.pointer (some ⟨mb, 0, none⟩)) := HL.out.cell 0
  have hbs : base ≤ (w.alloc (.cells #[.int .i64 4, .int .i64 rec, .string x, .slice C cuts.length cc] 27)).heap.size := by have := hb.2; simp; omega
  clear h h1 h2 h3 h4 h5 h6 h7 h8 fa hb
  go_enter Tryz.func16, Tryz.ntmps16
  unfold Oj.val opV
  go_upto_region 19 with fail
  generalize w.alloc (.cells #[.int .i64 4, .int .i64 rec, .string x, .slice C cuts.length cc] 27) = w0 at *
  go_wp2_with fail
  refine KD.mono ?_
  rintro e w1 ⟨rfl, ⟨j', j1, q1, a1, b1⟩, f1⟩
  have hlm : lb ≠ mb := by
    obtain ⟨cs, hi⟩ := mem_is HJ.out.mem
    exact is_ne HL.out hi (by decide)
  have HF1 : Hid (Fr (fun k => base ≤ k) w w1) := Lib.hid ((HF.out.mono fun _ _ h => h.elim).trans f1 fun k _ e => by have := HX.out.2.2.1; omega)
  have hb1 : base ≤ w1.heap.size := Nat.le_trans hbs f1.size
  have hlen := HX.out.2.1.len
  have KO := lopen_any (n := n) (cc := 0) (l := []) (C := none) (und := []) (all' := all) (HL.out.fr f1 hlm) (HR.out.frm HJ.out.mem f1) (World.ownsRow_nil _ _ _ _) j1.mem q1.up ⟨c, L, q1.st⟩ ⟨by rw [a1]; exact HX.out.2.1.acts, fun q => by rw [b1]; exact HX.out.2.1.worn q, hlen, HX.out.2.1.oks⟩ (by rw [List.append_nil, List.take_length]) (Nat.le_refl _) (by rw [List.append_nil]; exact Nat.le_refl _) (by rw [List.append_nil]; omega) ⟨HB.out.1, HX.out.2.2.1, hb1⟩ (fun h0 => by simp [cutCells] at h0) (fun _ => by simp [blk]) (by decide) (by simp)
  clear KD HL HR HJ HF j1 q1 a1 b1 f1 l0
  go_wp2_with fail
  refine KO.mono ?_
  rintro e w2 ⟨rfl, hu, f2⟩
  have HUU := Lib.hid hu
  have HFF := Lib.hid (HF1.out.trans f2 fun _ _ h => h)
  clear KO hu f2
  go_wp2_with fail
  go_ret
  exact ⟨rfl, HUU.out, HFF.out⟩

theorem step_any {w : World} {base lb n : Nat} {all : List Jo.Rc} (o : Oj) (ho : o.ok w base) (hn : n ≤ 1000000000) (hb : base ≤ lb ∧ base ≤ w.heap.size) (h : Up w base lb n all ∨ (o.kind = 3 ∧ ∃ r, Dn w base lb n all r)) :
    Calls Tryz.prog 16 #[.pointer (some ⟨lb, 0, none⟩), o.val] w fun e w' => e = .returned (.bool true) ∧ (∃ all', Up w' base lb (n + 1) all' ∨ ∃ r, Dn w' base lb (n + 1) all' r) ∧ (o.kind = 3 → ∃ all', Up w' base lb (n + 1) all') ∧ Fr (fun k => base ≤ k) w w' := by
  have up : ∀ {w' : World} {a : List Jo.Rc}, Up w' base lb n a → Up w' base lb (n + 1) a := fun h => h.mono (Nat.le_succ n)
  rcases h with h | ⟨h3, r, h⟩
  · by_cases k3 : o.kind = 3
    · obtain ⟨mb, jb, rg, j, c, L, v, h1, h2, hc, h4, h5, h6, h7, h8⟩ := h.ex
      have hlen := hc.len
      refine (step_back (und := []) (all' := all) o k3 ho h4 h5 (World.ownsRow_nil _ _ _ _) h1.mem ⟨c, L, h2.st⟩ hc.worn hc.len hc.oks (by rw [List.append_nil, List.take_length]) (Nat.le_refl _) (by rw [List.append_nil]; exact Nat.le_refl _) (by rw [List.append_nil]; omega) hb).mono ?_
      rintro e w' ⟨rfl, hu, f⟩
      exact ⟨rfl, ⟨all, .inl (up hu)⟩, fun _ => ⟨all, up hu⟩, f⟩
    · by_cases k1 : o.kind = 1
      · have e : o.val = opV 1 o.rk o.x (.slice o.C o.cuts.length o.cc) := by unfold Oj.val; rw [k1]
        rw [e]
        refine (step_append h hn hb o.rk o.x o.C o.cuts.length o.cc).mono ?_
        rintro e w' ⟨rfl, hu, f⟩
        exact ⟨rfl, hu, fun k => absurd k k3, f⟩
      · by_cases k2 : o.kind = 2
        · refine (step_arm h hb.2 o k2 ho).mono ?_
          rintro e w' ⟨rfl, hu, f⟩
          exact ⟨rfl, ⟨all, .inl (up hu)⟩, fun k => absurd k k3, f⟩
        · by_cases k4 : o.kind = 4
          · refine (step_reopen h hn hb o k4).mono ?_
            rintro e w' ⟨rfl, hu, f⟩
            exact ⟨rfl, ⟨all, .inl (up hu)⟩, fun k => absurd k k3, f⟩
          · refine (step_other h o ⟨k1, k2, k3, k4⟩).mono ?_
            rintro e w' ⟨rfl, hu, f⟩
            exact ⟨rfl, ⟨all, .inl (up hu)⟩, fun k => absurd k k3, f⟩
  · obtain ⟨mb, rg, m, jv, v, vu, all', h1, _, h4, h5, _, h7, h8, h9, h10, h11, h12, _⟩ := h.ex
    have hok : ∀ y ∈ all', y.ok := by
      rcases h5 with rfl | rfl
      · exact fun y hy => h9 y (List.mem_append.2 (.inl hy))
      · exact h9
    have ht : (all ++ [r]).take all'.length = all' ∧ all.length ≤ all'.length ∧ all'.length ≤ (all ++ [r]).length ∧ all'.length ≤ n := by
      rcases h5 with rfl | rfl
      · exact ⟨by simp, Nat.le_refl _, by simp, by omega⟩
      · exact ⟨List.take_length, by simp, Nat.le_refl _, by simp; omega⟩
    refine (step_back o h3 ho h10 h11 h12 h1 h4 h7 ht.2.2.2 hok ht.1 ht.2.1 ht.2.2.1 (by simp; omega) hb).mono ?_
    rintro e w' ⟨rfl, hu, f⟩
    exact ⟨rfl, ⟨all', .inl (up hu)⟩, fun _ => ⟨all', up hu⟩, f⟩
end Go.Proofs.YtdoljggaoidljaaGreat
/- A script's journal: the contract of play. -/
namespace Go.Proofs.YtdoljggaoidljaaGreat
open Go.RowKit

/-- the cells of a script -/
def opCells : List Oj → List Value
  | [] => []
  | o :: l => .int .i64 o.kind :: .int .i64 o.rk :: .string o.x :: .slice o.C o.cuts.length o.cc :: opCells l
theorem opCells_length : ∀ l : List Oj, (opCells l).length = l.length * 4
  | [] => rfl
  | o :: l => by simp only [opCells, List.length_cons, opCells_length l]; omega
theorem opCells_at : ∀ (l : List Oj) (k : Nat) (h : k < l.length), (opCells l)[k * 4]? = some (.int .i64 l[k].kind) ∧ (opCells l)[k * 4 + 1]? = some (.int .i64 l[k].rk) ∧ (opCells l)[k * 4 + 2]? = some (.string l[k].x) ∧ (opCells l)[k * 4 + 3]? = some (.slice l[k].C l[k].cuts.length l[k].cc)
  | o :: l, 0, _ => ⟨rfl, rfl, rfl, rfl⟩
  | o :: l, k + 1, h => by
    have := opCells_at l k (by simpa using h)
    rw [show (k + 1) * 4 = k * 4 + 1 + 1 + 1 + 1 by omega]
    exact this
theorem rd_op {w : World} {A : Option Addr} {l : List Oj} (h : Rd w A (opCells l)) {k : Nat} (hk : k < l.length) : ∃ g o, A = some ⟨g, o, none⟩ ∧ g < w.heap.size ∧ w.cell? ⟨g, o + k * 4, none⟩ = some (.int .i64 l[k].kind) ∧ w.cell? ⟨g, o + k * 4 + 1, none⟩ = some (.int .i64 l[k].rk) ∧ w.cell? ⟨g, o + k * 4 + 2, none⟩ = some (.string l[k].x) ∧ w.cell? ⟨g, o + k * 4 + 3, none⟩ = some (.slice l[k].C l[k].cuts.length l[k].cc) := by
  obtain ⟨g, o, hA, hg, hc⟩ := h (by rw [opCells_length]; omega)
  obtain ⟨e0, e1, e2, e3⟩ := opCells_at l k hk
  refine ⟨g, o, hA, hg, hc _ _ e0, ?_, ?_, ?_⟩
  · rw [Nat.add_assoc]; exact hc _ _ e1
  · rw [Nat.add_assoc]; exact hc _ _ e2
  · rw [Nat.add_assoc]; exact hc _ _ e3
/-- the power is back, and no cut is armed -/
def oBack : Oj := ⟨3, 0, ⟨#[]⟩, none, 0, []⟩
theorem oBack_ok (w : World) (base : Nat) : oBack.ok w base := ⟨fun h => by simp [oBack, cutCells] at h, fun h => by simp [oBack] at h, by simp [oBack], by simp [oBack]⟩

/-- what a script's journal is between two steps -/
def Mid (w : World) (base lb n : Nat) : Prop := ∃ all, Up w base lb n all ∨ ∃ r, Dn w base lb n all r
theorem Up.down {w : World} {base lb n : Nat} {all : List Jo.Rc} (h : Up w base lb n all) : ∃ mb, w.cell? ⟨lb, 0, none⟩ = some (.pointer (some ⟨mb, 0, none⟩)) ∧ Calls Tryz.prog 15 #[.pointer (some ⟨mb, 0, none⟩)] w fun e w' => e = .returned (.bool false) ∧ w = w' := by
  obtain ⟨mb, jb, rg, j, c, L, v, h1, h2, h3, h4, _⟩ := h.ex
  exact ⟨mb, h4.cell 0, down_at h1.mem h2.up⟩
theorem Dn.down {w : World} {base lb n : Nat} {all : List Jo.Rc} {r : Jo.Rc} (h : Dn w base lb n all r) : ∃ mb, w.cell? ⟨lb, 0, none⟩ = some (.pointer (some ⟨mb, 0, none⟩)) ∧ Calls Tryz.prog 15 #[.pointer (some ⟨mb, 0, none⟩)] w fun e w' => e = .returned (.bool true) ∧ w = w' := by
  obtain ⟨mb, rg, m, jv, v, vu, all', h1, h2, _, _, _, _, _, _, h4, _⟩ := h.ex
  exact ⟨mb, h4.cell 0, down_at h1 h2⟩
theorem Dn.fr {w w1 : World} {base lb n : Nat} {all : List Jo.Rc} {r : Jo.Rc} (h : Dn w base lb n all r) (f : Fr (fun _ => False) w w1) : Dn w1 base lb n all r := by
  obtain ⟨mb, rg, m, jv, v, vu, all', h1, h2, h3, h4, h5, h6, h7, h8, h9, h10, h11, h12⟩ := h.ex
  exact ⟨mb, rg, m, jv, v, vu, all', h1.none f, h2, h3, h4, h5, h6, h7, h8, h9.fr f id, h10.fr0 f, h11.fr0 f, h12⟩

theorem own_only {w w1 : World} (f : Fr (fun k => w.heap.size ≤ k) w w1) : Fr (fun _ => False) w w1 := ⟨f.os, f.tape, f.output, f.size, fun k hk _ => f.block k hk (by omega)⟩

set_option maxRecDepth 100000 in
set_option maxHeartbeats 8000000 in
theorem play_any {w : World} {A : Option Addr} {c : Nat} {l : List Oj} (hl : Rd w A (opCells l)) (hok : ∀ o ∈ l, o.ok w w.heap.size) (hn : l.length ≤ 900000000) :
    Calls Tryz.prog 7 #[.slice A l.length c] w fun e w' => e = .returned (.bool true) ∧ Fr (fun _ => False) w w' := by
  have KN := new_any w
  have HL := Lib.hid hl
  have HO := Lib.hid hok
  clear hl hok
  go_enter Tryz.func7, Tryz.ntmps7
  go_wp2_with fail
  refine KN.mono ?_
  rintro e w1 ⟨rfl, m1, f1⟩
  obtain ⟨mb, hmb⟩ : ∃ mb, mb = w.heap.size := ⟨_, rfl⟩
  rw [← hmb] at m1 ⊢
  have fa := (Fr.refl (fun _ => False) w1).alloc (.cells #[.pointer (some ⟨mb, 0, none⟩), .pointer none, .slice none 0 0, .slice none 0 0] 53)
  have hl1 : Lf (w1.alloc (.cells #[.pointer (some ⟨mb, 0, none⟩), .pointer none, .slice none 0 0, .slice none 0 0] 53)) w1.heap.size mb (.pointer none) (.slice none 0 0) (.slice none 0 0) := Is.new w1 _ _
  obtain ⟨lb, hlb⟩ : ∃ lb, lb = w1.heap.size := ⟨_, rfl⟩
  rw [← hlb] at hl1
  have hbl : w.heap.size ≤ lb := by have := f1.size; omega
  have KO := lopen_any (base := w.heap.size) (n := 0) (cc := 0) (l := []) (C := none) (all := []) (und := []) (all' := []) hl1 (World.ownsRow_nil _ _ _ _) (World.ownsRow_nil _ _ _ _) (m1.none fa) rfl holds_new.st ⟨Nat.le_refl _, fun _ => Nat.le_refl _, Nat.le_refl _, by simp⟩ rfl (Nat.le_refl _) (Nat.le_refl _) (by simp) ⟨hbl, by omega, by have := f1.size; simp; omega⟩ (fun h0 => by simp [cutCells] at h0) (fun _ => by simp [blk]) (by decide) (by simp)
  have HF1 := Lib.hid (f1.trans fa fun _ _ h => h)
  have e0 : ([] : List (Int × Int)).length = 0 := rfl
  rw [e0] at KO
  clear KN m1 f1 fa hl1 hmb e0
  go_wp2_with fail
  rw [← hlb]
  clear hlb
  generalize w1.alloc (.cells #[.pointer (some ⟨mb, 0, none⟩), .pointer none, .slice none 0 0, .slice none 0 0] 53) = w2 at *
  refine KO.mono ?_
  rintro e w3 ⟨rfl, hu, f3⟩
  have HM3 : Hid (Mid w3 w.heap.size lb 0) := Lib.hid ⟨[], .inl hu⟩
  have HF3 := Lib.hid ((HF1.out.mono (S' := fun k => w.heap.size ≤ k) fun _ _ h => h.elim).trans f3 fun _ _ h => h)
  clear KO hu f3 HF1
  go_wp2_with fail
  go_loopw [18] (fun i wr => ∃ k : Nat, k ≤ l.length ∧ i = .int .i64 (k : Int) ∧ Mid wr w.heap.size lb k ∧ Fr (fun k => w.heap.size ≤ k) w wr) (fun i _ => l.length - (intOf i).toNat)
  case atStart => exact ⟨0, Nat.zero_le _, rfl, HM3.out, HF3.out⟩
  case round =>
    clear HM3 HF3
    obtain ⟨k, hk, rfl, hm, hf⟩ := hrel
    by_cases hlt : k < l.length
    · obtain ⟨g, o, rfl, hg, c0, c1, c2, c3⟩ := rd_op (HL.out.fr hf fun k hk => by have h9 : k < w.heap.size := by { obtain ⟨g, o, e, hg, _⟩ := HL.out (by rw [opCells_length]; omega); rw [e] at hk; have e2 : g = k := by { injection hk }; omega }; omega) hlt
      have hoo := (HO.out _ (List.getElem_mem hlt)).fr hf
      generalize l[k] = p at *
      have fa := (Fr.refl (fun _ => False) wr).alloc (.cells #[.int .i64 p.kind, .int .i64 p.rk, .string p.x, .slice p.C p.cuts.length p.cc] 27)
      have ib : Is (wr.alloc (.cells #[.int .i64 p.kind, .int .i64 p.rk, .string p.x, .slice p.C p.cuts.length p.cc] 27)) wr.heap.size 27 #[.int .i64 p.kind, .int .i64 p.rk, .string p.x, .slice p.C p.cuts.length p.cc] := Is.new wr _ _
      have hbw : w.heap.size ≤ wr.heap.size := hf.size
      obtain ⟨tb, htb⟩ : ∃ tb, tb = wr.heap.size := ⟨_, rfl⟩
      rw [← htb] at ib
      obtain ⟨all, hU | ⟨r, hD⟩⟩ := hm
      · have hU' := hU.fr fa
        obtain ⟨mb, l0, KD⟩ := hU'.down
        have KS := step_any p (hoo.fr (fa.mono fun _ _ h => h.elim)) (n := k) (by omega) ⟨hbl, Nat.le_trans hbw fa.size⟩ (.inl hU')
        have HF := Lib.hid (hf.trans fa fun _ _ h => h.elim)
        unfold Oj.val opV at KS
        have HI := Lib.hid ib
        clear hU hU' hoo hf fa ib
        go_upto_region 7 with fail
        rw [← htb]
        clear htb c0 c1 c2 c3
        generalize wr.alloc (.cells #[.int .i64 p.kind, .int .i64 p.rk, .string p.x, .slice p.C p.cuts.length p.cc] 27) = wa at *
        have t0 : wa.cell? ⟨tb, 0, none⟩ = some (.int .i64 p.kind) := HI.out.cell 0
        have t1 : wa.cell? ⟨tb, 1, none⟩ = some (.int .i64 p.rk) := HI.out.cell 1
        have t2 : wa.cell? ⟨tb, 2, none⟩ = some (.string p.x) := HI.out.cell 2
        have t3 : wa.cell? ⟨tb, 3, none⟩ = some (.slice p.C p.cuts.length p.cc) := HI.out.cell 3
        go_wp2_with fail
        refine KD.mono ?_
        rintro e w4 ⟨rfl, rfl⟩
        clear KD
        go_wp2_with fail
        refine KS.mono ?_
        rintro e w5 ⟨rfl, hm5, _, f5⟩
        have HM5 := Lib.hid hm5
        have HF5 := Lib.hid (HF.out.trans f5 fun _ _ h => h)
        clear KS hm5 f5 HF HI t0 t1 t2 t3 l0
        go_wp2_with fail
        go_roundw
        case rel => exact ⟨k + 1, by omega, by go_num, HM5.out, HF5.out⟩
        case measure => simp [intOf]; omega
      · by_cases k3 : p.kind = 3
        · have hD' := hD.fr fa
          obtain ⟨mb, l0, KD⟩ := hD'.down
          have KS := step_any p (hoo.fr (fa.mono fun _ _ h => h.elim)) (n := k) (by omega) ⟨hbl, Nat.le_trans hbw fa.size⟩ (.inr ⟨k3, r, hD'⟩)
          have HF := Lib.hid (hf.trans fa fun _ _ h => h.elim)
          unfold Oj.val opV at KS
          have HI := Lib.hid ib
          have HQ3 : Hid ((p.kind != 3) = false) := Lib.hid (by simpa using k3)
          clear hD hD' hoo hf fa ib k3
          go_upto_region 7 with fail
          rw [← htb]
          clear htb c0 c1 c2 c3
          generalize wr.alloc (.cells #[.int .i64 p.kind, .int .i64 p.rk, .string p.x, .slice p.C p.cuts.length p.cc] 27) = wa at *
          have t0 : wa.cell? ⟨tb, 0, none⟩ = some (.int .i64 p.kind) := HI.out.cell 0
          have t1 : wa.cell? ⟨tb, 1, none⟩ = some (.int .i64 p.rk) := HI.out.cell 1
          have t2 : wa.cell? ⟨tb, 2, none⟩ = some (.string p.x) := HI.out.cell 2
          have t3 : wa.cell? ⟨tb, 3, none⟩ = some (.slice p.C p.cuts.length p.cc) := HI.out.cell 3
          have q3 := HQ3.out
          go_wp2_with fail
          refine KD.mono ?_
          rintro e w4 ⟨rfl, rfl⟩
          clear KD
          go_wp2_with fail
          refine KS.mono ?_
          rintro e w5 ⟨rfl, hm5, _, f5⟩
          have HM5 := Lib.hid hm5
          have HF5 := Lib.hid (HF.out.trans f5 fun _ _ h => h)
          clear KS hm5 f5 HF HI t0 t1 t2 t3 l0
          go_wp2_with fail
          go_roundw
          case rel => exact ⟨k + 1, by omega, by go_num, HM5.out, HF5.out⟩
          case measure => simp [intOf]; omega
        · have hD' := hD.fr fa
          obtain ⟨mb, l0, KD⟩ := hD'.down
          have HD := Lib.hid hD
          have HF := Lib.hid hf
          have HI := Lib.hid ib
          have HTB := Lib.hid htb
          clear hD hD' hoo hf ib fa
          go_upto_region 7 with fail
          rw [← htb]
          clear htb c0 c1 c2 c3
          have HA := Lib.hid ((Fr.refl (fun _ => False) wr).alloc (.cells #[.int .i64 p.kind, .int .i64 p.rk, .string p.x, .slice p.C p.cuts.length p.cc] 27))
          generalize wr.alloc (.cells #[.int .i64 p.kind, .int .i64 p.rk, .string p.x, .slice p.C p.cuts.length p.cc] 27) = wa at *
          have t0 : wa.cell? ⟨tb, 0, none⟩ = some (.int .i64 p.kind) := HI.out.cell 0
          have t1 : wa.cell? ⟨tb, 1, none⟩ = some (.int .i64 p.rk) := HI.out.cell 1
          have t2 : wa.cell? ⟨tb, 2, none⟩ = some (.string p.x) := HI.out.cell 2
          have t3 : wa.cell? ⟨tb, 3, none⟩ = some (.slice p.C p.cuts.length p.cc) := HI.out.cell 3
          have z0 : wa.frozen? ⟨tb, 0, none⟩ = false := HI.out.frozen 0
          have z1 : wa.frozen? ⟨tb, 1, none⟩ = false := HI.out.frozen 1
          have z2 : wa.frozen? ⟨tb, 2, none⟩ = false := HI.out.frozen 2
          have z3 : wa.frozen? ⟨tb, 3, none⟩ = false := HI.out.frozen 3
          have q3 : (p.kind != 3) = true := by simpa using k3
          go_wp2_with fail
          refine KD.mono ?_
          rintro e w4 ⟨rfl, rfl⟩
          clear KD
          go_upto_region 9 with fail
          have FB : Fr (fun _ => False) wr ((((wa.setCell ⟨tb, 0, none⟩ (.int .i64 3)).setCell ⟨tb, 1, none⟩ (.int .i64 0)).setCell ⟨tb, 2, none⟩ (.string ⟨#[]⟩)).setCell ⟨tb, 3, none⟩ (.slice none 0 0)) := (((HA.out.setCell (p := ⟨tb, 0, none⟩) (.inr (by rw [HTB.out]; exact Nat.le_refl _)) _).setCell (p := ⟨tb, 1, none⟩) (.inr (by rw [HTB.out]; exact Nat.le_refl _)) _).setCell (p := ⟨tb, 2, none⟩) (.inr (by rw [HTB.out]; exact Nat.le_refl _)) _).setCell (p := ⟨tb, 3, none⟩) (.inr (by rw [HTB.out]; exact Nat.le_refl _)) _
          have ibb : Is ((((wa.setCell ⟨tb, 0, none⟩ (.int .i64 3)).setCell ⟨tb, 1, none⟩ (.int .i64 0)).setCell ⟨tb, 2, none⟩ (.string ⟨#[]⟩)).setCell ⟨tb, 3, none⟩ (.slice none 0 0)) tb 27 #[.int .i64 3, .int .i64 0, .string ⟨#[]⟩, .slice none 0 0] := by
            have := (((HI.out.set 0 (.int .i64 3)).set 1 (.int .i64 0)).set 2 (.string ⟨#[]⟩)).set 3 (.slice none 0 0)
            simpa using this
          generalize (((wa.setCell ⟨tb, 0, none⟩ (.int .i64 3)).setCell ⟨tb, 1, none⟩ (.int .i64 0)).setCell ⟨tb, 2, none⟩ (.string ⟨#[]⟩)).setCell ⟨tb, 3, none⟩ (.slice none 0 0) = wb at *
          have KS := step_any oBack (oBack_ok wb w.heap.size) (n := k) (by omega) ⟨hbl, Nat.le_trans hbw FB.size⟩ (.inr ⟨rfl, r, HD.out.fr FB⟩)
          have HF5 := Lib.hid (HF.out.trans FB fun _ _ h => h.elim)
          have e5 : oBack.val = .agg #[.int .i64 3, .int .i64 0, .string ⟨#[]⟩, .slice none 0 0] := rfl
          rw [e5] at KS
          clear FB HF HA HI t0 t1 t2 t3 z0 z1 z2 z3 q3 k3 l0 HTB e5
          have t0 : wb.cell? ⟨tb, 0, none⟩ = some (.int .i64 3) := ibb.cell 0
          have t1 : wb.cell? ⟨tb, 1, none⟩ = some (.int .i64 0) := ibb.cell 1
          have t2 : wb.cell? ⟨tb, 2, none⟩ = some (.string ⟨#[]⟩) := ibb.cell 2
          have t3 : wb.cell? ⟨tb, 3, none⟩ = some (.slice none 0 0) := ibb.cell 3
          clear ibb
          go_wp2_with fail
          refine KS.mono ?_
          rintro e w5 ⟨rfl, hm5, _, f5⟩
          have HM5 := Lib.hid hm5
          have HF6 := Lib.hid (HF5.out.trans f5 fun _ _ h => h)
          clear KS hm5 f5 HF5 t0 t1 t2 t3
          go_wp2_with fail
          go_roundw
          case rel => exact ⟨k + 1, by omega, by go_num, HM5.out, HF6.out⟩
          case measure => simp [intOf]; omega
    · obtain ⟨all, hU | ⟨r, hD⟩⟩ := hm
      · obtain ⟨mb, jb, rg, j, c', L, v, h1, h2, h3, h4, h5, _⟩ := hU.ex
        obtain ⟨A7, c7, hv, _, _, _, _⟩ := wide_form h5
        subst hv
        have KD := down_at h1.mem h2.up
        have KS := safej_any h1.jr
        rw [h2.o] at KS
        have hlen := h3.len
        have KF := fun W (f : Fr (fun _ => False) wr W) => rsafe_any (c := c7) (wide_rd (h5.fr0 f)) (by omega)
        have l0 : wr.cell? ⟨lb, 0, none⟩ = some (.pointer (some ⟨mb, 0, none⟩)) := h4.cell 0
        have l1 : wr.cell? ⟨lb, 1, none⟩ = some (.pointer (some ⟨jb, 0, none⟩)) := h4.cell 1
        have HL4 := Lib.hid h4
        have HFF := Lib.hid hf
        have HKF := Lib.hid KF
        have q1 : ((safeT (Jo.lastSafe none all)).toList == (safeT (Jo.lastSafe none all)).toList) = true := beq_self_eq_true _
        generalize safeT (Jo.lastSafe none all) = sx at *
        generalize (Jo.lastSafe none all).isSome = sb at *
        clear hU h1 h2 h3 h4 h5 hf KF
        go_wp2_with fail
        refine KD.mono ?_
        rintro e w4 ⟨rfl, rfl⟩
        clear KD
        go_wp2_with fail
        refine KS.mono ?_
        rintro e w5 ⟨rfl, f5⟩
        have KF := HKF.out w5 f5
        have l2 : w5.cell? ⟨lb, 2, none⟩ = some (.slice A7 all.length c7) := (HL4.out.fr f5 id).cell 2
        have HF5 := Lib.hid (HFF.out.trans f5 fun _ _ h => h.elim)
        clear KS HKF HFF f5 l0 l1 HL4
        go_wp2_with fail
        refine KF.mono ?_
        rintro e w6 ⟨rfl, rfl⟩
        clear KF l2
        go_wp2_with fail
        go_ret
        exact ⟨rfl, own_only HF5.out⟩
      · obtain ⟨mb, l0, KD⟩ := hD.down
        have KS := step_any oBack (oBack_ok wr w.heap.size) (n := k) (by omega) ⟨hbl, hf.size⟩ (.inr ⟨rfl, r, hD⟩)
        have e5 : oBack.val = .agg #[.int .i64 3, .int .i64 0, .string ⟨#[]⟩, .slice none 0 0] := rfl
        rw [e5] at KS
        have HFF := Lib.hid hf
        clear hD hf e5
        go_wp2_with fail
        refine KD.mono ?_
        rintro e w4 ⟨rfl, rfl⟩
        clear KD
        go_wp2_with fail
        refine KS.mono ?_
        rintro e w5 ⟨rfl, _, _, f5⟩
        have HF5 := Lib.hid (HFF.out.trans f5 fun _ _ h => h)
        clear KS HFF f5 l0
        go_wp2_with fail
        go_ret
        exact ⟨rfl, own_only HF5.out⟩
end Go.Proofs.YtdoljggaoidljaaGreat

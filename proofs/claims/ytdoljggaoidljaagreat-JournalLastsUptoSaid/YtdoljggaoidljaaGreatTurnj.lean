/- The contract of the journal's turn: as a machine of plain data. -/
import Derived.Test.YtdoljggaoidljaaGreatPutj
namespace Go.Proofs.YtdoljggaoidljaaGreat
open Go.RowKit

/-- a journal and its memory, as plain data -/
structure Jm where
  m : Mm
  o : Option (List UInt8)
  nth : Nat
  first : Nat
  next : Nat
  stop : Nat
namespace Jm
def page (j : Jm) : Int := ((j.nth % 24 : Nat) : Int)
def burn (j : Jm) (t : List UInt8) : Nat × Jm := (j.m.burnE j.page j.stop t, { j with m := j.m.burnM j.page j.stop t, stop := if j.m.burnE j.page j.stop t = 0 then j.stop + t.length else j.stop })
def turn0 (j : Jm) : Jm := { j with nth := if j.first < j.next then j.nth + 1 else j.nth, first := if j.first < j.next then j.next else j.first, stop := 0 }
def head (j : Jm) : List UInt8 := Jo.fram (Jo.headB j.nth j.first j.o)
/-- what turn does once the journal stands at its next sheet -/
def turn1 (k : Jm) : Nat × Jm := if 0 < k.m.bare k.page then (if k.m.eraseE k.page = 0 then burn { k with m := k.m.eraseM k.page } k.head else (k.m.eraseE k.page, { k with m := k.m.eraseM k.page })) else k.burn k.head
def turn (j : Jm) : Nat × Jm := j.turn0.turn1
end Jm
theorem erase_acts (m : Mm) (p : Int) : (m.eraseM p).acts ≤ m.acts + 1 := by
  unfold Mm.eraseM
  split
  · exact Nat.le_refl _
  · omega
theorem erase_worn (m : Mm) (p : Int) (q : Nat) : (m.eraseM p).worn q ≤ m.worn q + 1 := by
  unfold Mm.eraseM
  split
  · show (if q = p.toNat then m.worn q + 1 else m.worn q) ≤ _
    split <;> omega
  · omega
theorem burn_acts (m : Mm) (p a : Int) (t : List UInt8) : (m.burnM p a t).acts ≤ m.acts + 1 ∧ ∀ q, (m.burnM p a t).worn q = m.worn q := by
  unfold Mm.burnM
  split
  · exact ⟨Nat.le_refl _, fun _ => rfl⟩
  · exact ⟨by omega, fun _ => rfl⟩
/-- how it lies -/
structure JM (w : World) (jb mb : Nat) (r : Option Nat) (j : Jm) : Prop where
  mem : Mem w mb r j.m
  jr : Jb w jb j.o mb j.nth j.first j.next j.stop false
  off : ¬ Foot mb r jb
/-- its numbers are small -/
structure Jsmall (j : Jm) : Prop where
  acts : j.m.acts < 4611686018427380000
  worn : ∀ p, j.m.worn p < 4611686018427380000
  nth : j.nth ≤ 4294967200
  first : j.first ≤ 4294967200
  next : j.next ≤ 4294967200
  stop : j.stop ≤ 4096
  o : (j.o.getD []).length ≤ 1000
def JF (w w' : World) (jb mb : Nat) (r : Option Nat) : Prop := Fr (fun j => Foot mb r j ∨ j = jb) w w'
theorem JM.fr {w w' : World} {jb mb : Nat} {r : Option Nat} {j : Jm} (h : JM w jb mb r j) (f : Fr (fun _ => False) w w') : JM w' jb mb r j := ⟨h.mem.none f, h.jr.fr f id, h.off⟩
theorem jm_burn {w : World} {jb mb : Nat} {r : Option Nat} {j : Jm} (h : JM w jb mb r j) (hs : Jsmall j) (s : ByteArray) (hz : s.size ≤ 5000) :
    Calls Tryz.prog 37 #[.pointer (some ⟨jb, 0, none⟩), .string s] w fun e w' => e = .returned (.int .i64 ((j.burn (bytesOf s)).1 : Nat)) ∧ JM w' jb mb r (j.burn (bytesOf s)).2 ∧ JF w w' jb mb r := by
  refine (burnj_any h.jr h.mem h.off (by have := hs.acts; omega) (by have := hs.nth; omega) hs.stop s hz).mono ?_
  rintro e w' ⟨rfl, h1, h2, h3⟩
  refine ⟨rfl, ⟨h1, ?_, h.off⟩, h3⟩
  have hb := bytesOf_length s
  show Jb w' jb j.o mb j.nth j.first j.next (if j.m.burnE j.page j.stop (bytesOf s) = 0 then j.stop + (bytesOf s).length else j.stop) false
  rw [hb]
  exact h2
set_option maxRecDepth 10000 in
set_option maxHeartbeats 8000000 in
theorem turn_any {w : World} {jb mb : Nat} {r : Option Nat} {j : Jm} (h : JM w jb mb r j) (hs : Jsmall j) (hx : j.nth ≤ 4294960000 ∧ j.m.acts ≤ 4611686018427370000 ∧ ∀ p, j.m.worn p ≤ 4611686018427370000) :
    Calls Tryz.prog 36 #[.pointer (some ⟨jb, 0, none⟩)] w fun e w' => e = .returned (.int .i64 (j.turn.1 : Nat)) ∧ JM w' jb mb r j.turn.2 ∧ JF w w' jb mb r := by
  have HS := Lib.hid hs
  have hn1 := hs.nth
  have hn2 := hs.first
  have hn3 := hs.next
  have HT : Hid (j.turn = j.turn0.turn1) := Lib.hid rfl
  have hcase : (j.first < j.next ∧ j.turn0 = { j with nth := j.nth + 1, first := j.next, stop := 0 }) ∨ (¬ j.first < j.next ∧ j.turn0 = { j with stop := 0 }) := by
    unfold Jm.turn0
    by_cases q : j.first < j.next
    · exact .inl ⟨q, by rw [if_pos q, if_pos q]⟩
    · exact .inr ⟨q, by rw [if_neg q, if_neg q]⟩
  obtain ⟨_, _, c2, c3, c4, c5, c6, _, cf⟩ := jb_cells h.jr
  have x4 := cell_fro c4
  have x5 := cell_fro c5
  have hjl := h.jr.lt
  have HH := Lib.hid h
  rcases hcase with ⟨q, ht⟩ | ⟨q, ht⟩
  · have HT0 := Lib.hid ht
    clear ht h hs
    go_enter Tryz.func36, Tryz.ntmps36
    go_wp2
    refine region_fro (by kernel_rfl) (by kernel_rfl) ?_
    repeat (go_big_quiet_step (fail))
    refine wpQuiet_nil ?_
    rintro w1 ⟨u, hu⟩
    have f1 : Fr (fun _ => False) w w1 := by rw [hu]; exact u.f
    clear hu u
    have HH1 := Lib.hid (HH.out.fr f1)
    obtain ⟨_, _, c2, c3, c4, c5, c6, _, cf⟩ := jb_cells HH1.out.jr
    have hjl := HH1.out.jr.lt
    have HF1 := Lib.hid f1
    clear f1 x4 x5 HH
    go_wp2_with fail
    have hne := HH1.out.off
    obtain ⟨W, hW⟩ : ∃ W, W = ((w1.setCell ⟨jb, 3, none⟩ (.int .i64 ((j.nth : Int) + 1))).setCell ⟨jb, 4, none⟩ (.int .i64 (j.next : Int))).setCell ⟨jb, 6, none⟩ (.int .i64 0) := ⟨_, rfl⟩
    have FW : Fr (fun i => i = jb) w1 W := by rw [hW]; exact (((Fr.refl (fun i => i = jb) w1).setCell (p := ⟨jb, 3, none⟩) (.inl rfl) _).setCell (p := ⟨jb, 4, none⟩) (.inl rfl) _).setCell (p := ⟨jb, 6, none⟩) (.inl rfl) _
    have JMW : JM W jb mb r { j with nth := j.nth + 1, first := j.next, stop := 0 } := ⟨HH1.out.mem.fr FW (fun e => hne (.inl e.symm)) fun i hi e => hne (.inr (by rw [hi, e])), by rw [hW]; exact ((HH1.out.jr.set 3 _).set 4 _).set 6 _, hne⟩
    have HFK : Hid (JF w W jb mb r) := Lib.hid ((HF1.out.mono fun _ _ h => h.elim).trans (S := fun i => Foot mb r i ∨ i = jb) FW fun _ _ h => .inr h)
    obtain ⟨k, hk⟩ : ∃ k : Jm, k = j.turn0 := ⟨_, rfl⟩
    have hks : Jsmall k := by rw [hk, HT0.out]; exact ⟨HS.out.acts, HS.out.worn, by show _ ≤ _; have hx' := hx.1; (first | omega | (show j.nth + 1 ≤ 4294967200; omega) | (show j.nth ≤ 4294967200; omega)), HS.out.next, HS.out.next, Nat.zero_le _, HS.out.o⟩
    have HK : Hid (JM W jb mb r k) := Lib.hid (by rw [hk, HT0.out]; exact JMW)
    have hkn : ((j.nth : Int) + 1 : Int) = (k.nth : Int) := by rw [hk, HT0.out]; rfl
    have HKT : Hid (j.turn = k.turn1) := Lib.hid (by rw [HT.out, hk])
    rw [← hW, hkn]
    have hn8 : k.nth ≤ 4294967200 := hks.nth
    have HKX : Hid (k.m.acts ≤ 4611686018427370000 ∧ ∀ p, k.m.worn p ≤ 4611686018427370000) := Lib.hid (by rw [hk, HT0.out]; exact hx.2)
    clear hk hkn hW hx JMW FW c2 c3 c4 c5 c6 cf hjl HT0 HT HH1 HF1 HS hn1 hn2 hn3 q hne
    have hk1 : k.nth ≤ 4294967296 := by omega
    have KP := fun W => pageOf_any k.nth (by omega) W
    have hpg : k.page = ((k.nth % 24 : Nat) : Int) := rfl
    have KB := bare_any HK.out.mem k.page (by rw [hpg]; omega) (by rw [hpg]; omega)
    have KE := erase_any HK.out.mem (by have := hks.acts; omega) (fun p => by have := hks.worn p; omega) k.page (by rw [hpg]; omega) (by rw [hpg]; omega)
    rw [hpg] at KB KE
    obtain ⟨_, _, c2, c3, c4, c5, c6, _, cf⟩ := jb_cells HK.out.jr
    refine (KP _).mono ?_
    rintro e w' ⟨rfl, rfl⟩
    clear KP
    have HPG := Lib.hid hpg
    clear hpg
    obtain ⟨pn, hpn⟩ : ∃ pn, pn = k.nth % 24 := ⟨_, rfl⟩
    rw [← hpn] at KB KE ⊢
    have HPN := Lib.hid hpn
    clear hpn
    go_wp2_with fail
    refine KB.mono ?_
    rintro e w' ⟨rfl, rfl⟩
    clear KB
    obtain ⟨bn, hbn⟩ : ∃ bn, bn = k.m.bare (pn : Int) := ⟨_, rfl⟩
    rw [← hbn]
    have HBN := Lib.hid hbn
    clear hbn
    by_cases hb : 0 < bn
    · have q2 : decide ((0 : Int) < (bn : Int)) = true := decide_eq_true (by omega)
      obtain ⟨en, hen⟩ : ∃ en, en = k.m.eraseE (pn : Int) := ⟨_, rfl⟩
      rw [← hen] at KE
      have HEN := Lib.hid hen
      clear hen
      go_wp2_with fail
      refine KE.mono ?_
      rintro e w2 ⟨rfl, M2, F2⟩
      have HK2 : Hid (JM w2 jb mb r { k with m := k.m.eraseM (pn : Int) }) := Lib.hid ⟨M2, HK.out.jr.fr F2 HK.out.off, HK.out.off⟩
      have HF2 := Lib.hid (HFK.out.trans (S := fun j => Foot mb r j ∨ j = jb) F2 fun _ _ h => .inl h)
      clear KE M2 F2
      by_cases he : en = 0
      · have hT1 : k.turn1 = Jm.burn { k with m := k.m.eraseM (pn : Int) } k.head := by
          unfold Jm.turn1
          rw [HPG.out, ← HPN.out, ← HBN.out, if_pos hb, ← HEN.out, if_pos he]
        have q3 : ((en : Int) != 0) = false := by rw [he]; rfl
        have hk2s : Jsmall { k with m := k.m.eraseM (pn : Int) } := ⟨by have := erase_acts k.m (pn : Int); have := HKX.out.1; show (k.m.eraseM _).acts < _; omega, fun p => by have := erase_worn k.m (pn : Int) p; have := HKX.out.2 p; show (k.m.eraseM _).worn p < _; omega, hks.nth, hks.first, hks.next, hks.stop, hks.o⟩
        have HT1 := Lib.hid hT1
        have hko : (k.o.getD []).length ≤ 1000 := hks.o
        clear hT1 he hb HEN HK HFK
        obtain ⟨k2, hk2⟩ : ∃ k2 : Jm, k2 = { k with m := k.m.eraseM (pn : Int) } := ⟨_, rfl⟩
        have e1 : k2.nth = k.nth := by rw [hk2]
        have e2 : k2.first = k.first := by rw [hk2]
        have e3 : k2.o = k.o := by rw [hk2]
        have e4 : k2.head = k.head := by rw [hk2]; rfl
        rw [← hk2] at HK2 HT1 hk2s
        have HEQ : Hid (k2.burn k.head = k2.burn k2.head) := Lib.hid (by rw [e4])
        rw [← e3] at hko
        have HE := Lib.hid (show k2.nth = k.nth ∧ k2.first = k.first ∧ k2.head = k.head from ⟨e1, e2, e4⟩)
        have hn9 : k2.nth ≤ 4294967200 := hk2s.nth
        have hf9 : k2.first ≤ 4294967200 := hk2s.first
        clear hk2 e1 e2 e3 e4
        have KH := fun W => head_any k2.nth k2.first k2.o (by omega) (by omega) hko W
        obtain ⟨y, hy⟩ : ∃ y : ByteArray, y = ⟨(Jo.fram (Jo.headB k2.nth k2.first k2.o)).toArray⟩ := ⟨_, rfl⟩
        rw [← hy] at KH
        have hyb : bytesOf y = k2.head := by rw [hy]; rfl
        have hyz : y.size ≤ 5000 := by
          rw [← bytesOf_length, hyb]
          show (Jo.fram (Jo.headB k2.nth k2.first k2.o)).length ≤ 5000
          rw [Jo.fram_length, Jo.headB_length]
          omega
        have KBn := fun (W : World) (hW : JM W jb mb r k2) => jm_burn hW hk2s y hyz
        rw [hyb] at KBn
        have HKB := Lib.hid KBn
        have HK3 := Lib.hid (HK2.out.fr (Fr.refl (fun _ => False) w2).drew)
        obtain ⟨d0, d1, d2, d3, d4, d5, d6, _, df⟩ := jb_cells HK3.out.jr
        have hjl2 := HK3.out.jr.lt
        have HF3 := Lib.hid (HF2.out.drew)
        clear hy hyb hyz KBn hk2s HK2 HF2
        go_wp2_with fail
        go_region_held3 (fun W => W.cell? ⟨jb, 0, none⟩ = some (.string (safeT k2.o)) ∧ W.cell? ⟨jb, 1, none⟩ = some (.bool k2.o.isSome) ∧ W.cell? ⟨jb, 3, none⟩ = some (.int .i64 (k2.nth : Int)) ∧ W.cell? ⟨jb, 4, none⟩ = some (.int .i64 (k2.first : Int))) (first | exact ⟨d0, d1, d3, d4⟩ | exact s5 | exact s6) (first | (go_at_call 55; refine (KH _).mono ?_; rintro e w5 ⟨rfl, f5⟩; have HK5 := Lib.hid (HK3.out.fr f5); have HF5 := Lib.hid (HF3.out.trans f5 fun _ _ h => h.elim); have s5 : w5.cell? ⟨jb, 0, none⟩ = some (.string (safeT k2.o)) ∧ w5.cell? ⟨jb, 1, none⟩ = some (.bool k2.o.isSome) ∧ w5.cell? ⟨jb, 3, none⟩ = some (.int .i64 (k2.nth : Int)) ∧ w5.cell? ⟨jb, 4, none⟩ = some (.int .i64 (k2.first : Int)) := ⟨HK5.out.jr.cell 0, HK5.out.jr.cell 1, HK5.out.jr.cell 3, HK5.out.jr.cell 4⟩; clear f5) | (go_at_call 37; refine (HKB.out _ HK5.out).mono ?_; rintro e w6 ⟨rfl, M6, F6⟩; have s6 : w6.cell? ⟨jb, 0, none⟩ = some (.string (safeT k2.o)) ∧ w6.cell? ⟨jb, 1, none⟩ = some (.bool k2.o.isSome) ∧ w6.cell? ⟨jb, 3, none⟩ = some (.int .i64 (k2.nth : Int)) ∧ w6.cell? ⟨jb, 4, none⟩ = some (.int .i64 (k2.first : Int)) := ⟨M6.jr.cell 0, M6.jr.cell 1, M6.jr.cell 3, M6.jr.cell 4⟩))
        have HM6 := Lib.hid M6
        have HF6 := Lib.hid (HF5.out.trans F6 fun _ _ h => h)
        clear s5 s6 M6 F6 d0 d1 d2 d3 d4 d5 d6 df
        go_wp2_with fail
        go_ret
        first | rw [HKT.out, HT1.out, HEQ.out] | rw [HKT.out, HT1.out]
        exact ⟨rfl, HM6.out, HF6.out⟩
      · have hT1 : k.turn1 = (en, { k with m := k.m.eraseM (pn : Int) }) := by
          unfold Jm.turn1
          rw [HPG.out, ← HPN.out, ← HBN.out, if_pos hb, ← HEN.out, if_neg he]
        have q3 : ((en : Int) != 0) = true := by simpa using he
        have HT1 := Lib.hid hT1
        clear hT1 he hb HEN HK HFK
        go_wp2_with fail
        go_ret
        rw [HKT.out, HT1.out]
        exact ⟨rfl, HK2.out, HF2.out⟩
    · have q2 : decide ((0 : Int) < (bn : Int)) = false := decide_eq_false (by omega)
      have hT1 : k.turn1 = k.burn k.head := by
        unfold Jm.turn1
        rw [HPG.out, ← HPN.out, ← HBN.out, if_neg hb]
      have HT1 := Lib.hid hT1
      have hk2s := hks
      have hko : (k.o.getD []).length ≤ 1000 := hks.o
      have HK2 := HK
      have HF2 := HFK
      obtain ⟨k2, hk2⟩ : ∃ k2 : Jm, k2 = k := ⟨_, rfl⟩
      obtain ⟨w2, hw2⟩ : ∃ w2 : World, w2 = W := ⟨_, rfl⟩
      have HEQ : Hid (k2.burn k.head = k2.burn k2.head) := Lib.hid (by rw [hk2])
      rw [← hk2] at HT1 hk2s hko HK2
      rw [← hw2] at HK2 HF2
      have HE := Lib.hid (show k2.nth = k.nth ∧ k2.first = k.first ∧ k2.head = k.head from by rw [hk2]; exact ⟨rfl, rfl, rfl⟩)
      have hn9 : k2.nth ≤ 4294967200 := hk2s.nth
      have hf9 : k2.first ≤ 4294967200 := hk2s.first
      clear hT1 KE
      subst hk2 hw2
      have KH := fun W => head_any k2.nth k2.first k2.o (by omega) (by omega) hko W
      obtain ⟨y, hy⟩ : ∃ y : ByteArray, y = ⟨(Jo.fram (Jo.headB k2.nth k2.first k2.o)).toArray⟩ := ⟨_, rfl⟩
      rw [← hy] at KH
      have hyb : bytesOf y = k2.head := by rw [hy]; rfl
      have hyz : y.size ≤ 5000 := by
        rw [← bytesOf_length, hyb]
        show (Jo.fram (Jo.headB k2.nth k2.first k2.o)).length ≤ 5000
        rw [Jo.fram_length, Jo.headB_length]
        omega
      have KBn := fun (W : World) (hW : JM W jb mb r k2) => jm_burn hW hk2s y hyz
      rw [hyb] at KBn
      have HKB := Lib.hid KBn
      have HK3 := Lib.hid (HK2.out.fr (Fr.refl (fun _ => False) w2).drew)
      obtain ⟨d0, d1, d2, d3, d4, d5, d6, _, df⟩ := jb_cells HK3.out.jr
      have hjl2 := HK3.out.jr.lt
      have HF3 := Lib.hid (HF2.out.drew)
      clear hy hyb hyz KBn hk2s HK2 HF2
      go_wp2_with fail
      go_region_held3 (fun W => W.cell? ⟨jb, 0, none⟩ = some (.string (safeT k2.o)) ∧ W.cell? ⟨jb, 1, none⟩ = some (.bool k2.o.isSome) ∧ W.cell? ⟨jb, 3, none⟩ = some (.int .i64 (k2.nth : Int)) ∧ W.cell? ⟨jb, 4, none⟩ = some (.int .i64 (k2.first : Int))) (first | exact ⟨d0, d1, d3, d4⟩ | exact s5 | exact s6) (first | (go_at_call 55; refine (KH _).mono ?_; rintro e w5 ⟨rfl, f5⟩; have HK5 := Lib.hid (HK3.out.fr f5); have HF5 := Lib.hid (HF3.out.trans f5 fun _ _ h => h.elim); have s5 : w5.cell? ⟨jb, 0, none⟩ = some (.string (safeT k2.o)) ∧ w5.cell? ⟨jb, 1, none⟩ = some (.bool k2.o.isSome) ∧ w5.cell? ⟨jb, 3, none⟩ = some (.int .i64 (k2.nth : Int)) ∧ w5.cell? ⟨jb, 4, none⟩ = some (.int .i64 (k2.first : Int)) := ⟨HK5.out.jr.cell 0, HK5.out.jr.cell 1, HK5.out.jr.cell 3, HK5.out.jr.cell 4⟩; clear f5) | (go_at_call 37; refine (HKB.out _ HK5.out).mono ?_; rintro e w6 ⟨rfl, M6, F6⟩; have s6 : w6.cell? ⟨jb, 0, none⟩ = some (.string (safeT k2.o)) ∧ w6.cell? ⟨jb, 1, none⟩ = some (.bool k2.o.isSome) ∧ w6.cell? ⟨jb, 3, none⟩ = some (.int .i64 (k2.nth : Int)) ∧ w6.cell? ⟨jb, 4, none⟩ = some (.int .i64 (k2.first : Int)) := ⟨M6.jr.cell 0, M6.jr.cell 1, M6.jr.cell 3, M6.jr.cell 4⟩))
      have HM6 := Lib.hid M6
      have HF6 := Lib.hid (HF5.out.trans F6 fun _ _ h => h)
      clear s5 s6 M6 F6 d0 d1 d2 d3 d4 d5 d6 df
      go_wp2_with fail
      go_ret
      first | rw [HKT.out, HT1.out, HEQ.out] | rw [HKT.out, HT1.out]
      exact ⟨rfl, HM6.out, HF6.out⟩
  · have HT0 := Lib.hid ht
    clear ht h hs
    go_enter Tryz.func36, Tryz.ntmps36
    go_wp2
    refine region_fro (by kernel_rfl) (by kernel_rfl) ?_
    repeat (go_big_quiet_step (fail))
    refine wpQuiet_nil ?_
    rintro w1 ⟨u, hu⟩
    have f1 : Fr (fun _ => False) w w1 := by rw [hu]; exact u.f
    clear hu u
    have HH1 := Lib.hid (HH.out.fr f1)
    obtain ⟨_, _, c2, c3, c4, c5, c6, _, cf⟩ := jb_cells HH1.out.jr
    have hjl := HH1.out.jr.lt
    have HF1 := Lib.hid f1
    clear f1 x4 x5 HH
    go_wp2_with fail
    have hne := HH1.out.off
    obtain ⟨W, hW⟩ : ∃ W, W = w1.setCell ⟨jb, 6, none⟩ (.int .i64 0) := ⟨_, rfl⟩
    have FW : Fr (fun i => i = jb) w1 W := by rw [hW]; exact (Fr.refl (fun i => i = jb) w1).setCell (p := ⟨jb, 6, none⟩) (.inl rfl) _
    have JMW : JM W jb mb r { j with stop := 0 } := ⟨HH1.out.mem.fr FW (fun e => hne (.inl e.symm)) fun i hi e => hne (.inr (by rw [hi, e])), by rw [hW]; exact HH1.out.jr.set 6 _, hne⟩
    have HFK : Hid (JF w W jb mb r) := Lib.hid ((HF1.out.mono fun _ _ h => h.elim).trans (S := fun i => Foot mb r i ∨ i = jb) FW fun _ _ h => .inr h)
    obtain ⟨k, hk⟩ : ∃ k : Jm, k = j.turn0 := ⟨_, rfl⟩
    have hks : Jsmall k := by rw [hk, HT0.out]; exact ⟨HS.out.acts, HS.out.worn, by show _ ≤ _; have hx' := hx.1; (first | omega | (show j.nth + 1 ≤ 4294967200; omega) | (show j.nth ≤ 4294967200; omega)), HS.out.first, HS.out.next, Nat.zero_le _, HS.out.o⟩
    have HK : Hid (JM W jb mb r k) := Lib.hid (by rw [hk, HT0.out]; exact JMW)
    have hkn : ((j.nth : Int) : Int) = (k.nth : Int) := by rw [hk, HT0.out]
    have HKT : Hid (j.turn = k.turn1) := Lib.hid (by rw [HT.out, hk])
    rw [← hW, hkn]
    have hn8 : k.nth ≤ 4294967200 := hks.nth
    have HKX : Hid (k.m.acts ≤ 4611686018427370000 ∧ ∀ p, k.m.worn p ≤ 4611686018427370000) := Lib.hid (by rw [hk, HT0.out]; exact hx.2)
    clear hk hkn hW hx JMW FW c2 c3 c4 c5 c6 cf hjl HT0 HT HH1 HF1 HS hn1 hn2 hn3 q hne
    have hk1 : k.nth ≤ 4294967296 := by omega
    have KP := fun W => pageOf_any k.nth (by omega) W
    have hpg : k.page = ((k.nth % 24 : Nat) : Int) := rfl
    have KB := bare_any HK.out.mem k.page (by rw [hpg]; omega) (by rw [hpg]; omega)
    have KE := erase_any HK.out.mem (by have := hks.acts; omega) (fun p => by have := hks.worn p; omega) k.page (by rw [hpg]; omega) (by rw [hpg]; omega)
    rw [hpg] at KB KE
    obtain ⟨_, _, c2, c3, c4, c5, c6, _, cf⟩ := jb_cells HK.out.jr
    refine (KP _).mono ?_
    rintro e w' ⟨rfl, rfl⟩
    clear KP
    have HPG := Lib.hid hpg
    clear hpg
    obtain ⟨pn, hpn⟩ : ∃ pn, pn = k.nth % 24 := ⟨_, rfl⟩
    rw [← hpn] at KB KE ⊢
    have HPN := Lib.hid hpn
    clear hpn
    go_wp2_with fail
    refine KB.mono ?_
    rintro e w' ⟨rfl, rfl⟩
    clear KB
    obtain ⟨bn, hbn⟩ : ∃ bn, bn = k.m.bare (pn : Int) := ⟨_, rfl⟩
    rw [← hbn]
    have HBN := Lib.hid hbn
    clear hbn
    by_cases hb : 0 < bn
    · have q2 : decide ((0 : Int) < (bn : Int)) = true := decide_eq_true (by omega)
      obtain ⟨en, hen⟩ : ∃ en, en = k.m.eraseE (pn : Int) := ⟨_, rfl⟩
      rw [← hen] at KE
      have HEN := Lib.hid hen
      clear hen
      go_wp2_with fail
      refine KE.mono ?_
      rintro e w2 ⟨rfl, M2, F2⟩
      have HK2 : Hid (JM w2 jb mb r { k with m := k.m.eraseM (pn : Int) }) := Lib.hid ⟨M2, HK.out.jr.fr F2 HK.out.off, HK.out.off⟩
      have HF2 := Lib.hid (HFK.out.trans (S := fun j => Foot mb r j ∨ j = jb) F2 fun _ _ h => .inl h)
      clear KE M2 F2
      by_cases he : en = 0
      · have hT1 : k.turn1 = Jm.burn { k with m := k.m.eraseM (pn : Int) } k.head := by
          unfold Jm.turn1
          rw [HPG.out, ← HPN.out, ← HBN.out, if_pos hb, ← HEN.out, if_pos he]
        have q3 : ((en : Int) != 0) = false := by rw [he]; rfl
        have hk2s : Jsmall { k with m := k.m.eraseM (pn : Int) } := ⟨by have := erase_acts k.m (pn : Int); have := HKX.out.1; show (k.m.eraseM _).acts < _; omega, fun p => by have := erase_worn k.m (pn : Int) p; have := HKX.out.2 p; show (k.m.eraseM _).worn p < _; omega, hks.nth, hks.first, hks.next, hks.stop, hks.o⟩
        have HT1 := Lib.hid hT1
        have hko : (k.o.getD []).length ≤ 1000 := hks.o
        clear hT1 he hb HEN HK HFK
        obtain ⟨k2, hk2⟩ : ∃ k2 : Jm, k2 = { k with m := k.m.eraseM (pn : Int) } := ⟨_, rfl⟩
        have e1 : k2.nth = k.nth := by rw [hk2]
        have e2 : k2.first = k.first := by rw [hk2]
        have e3 : k2.o = k.o := by rw [hk2]
        have e4 : k2.head = k.head := by rw [hk2]; rfl
        rw [← hk2] at HK2 HT1 hk2s
        have HEQ : Hid (k2.burn k.head = k2.burn k2.head) := Lib.hid (by rw [e4])
        rw [← e3] at hko
        have HE := Lib.hid (show k2.nth = k.nth ∧ k2.first = k.first ∧ k2.head = k.head from ⟨e1, e2, e4⟩)
        have hn9 : k2.nth ≤ 4294967200 := hk2s.nth
        have hf9 : k2.first ≤ 4294967200 := hk2s.first
        clear hk2 e1 e2 e3 e4
        have KH := fun W => head_any k2.nth k2.first k2.o (by omega) (by omega) hko W
        obtain ⟨y, hy⟩ : ∃ y : ByteArray, y = ⟨(Jo.fram (Jo.headB k2.nth k2.first k2.o)).toArray⟩ := ⟨_, rfl⟩
        rw [← hy] at KH
        have hyb : bytesOf y = k2.head := by rw [hy]; rfl
        have hyz : y.size ≤ 5000 := by
          rw [← bytesOf_length, hyb]
          show (Jo.fram (Jo.headB k2.nth k2.first k2.o)).length ≤ 5000
          rw [Jo.fram_length, Jo.headB_length]
          omega
        have KBn := fun (W : World) (hW : JM W jb mb r k2) => jm_burn hW hk2s y hyz
        rw [hyb] at KBn
        have HKB := Lib.hid KBn
        have HK3 := Lib.hid (HK2.out.fr (Fr.refl (fun _ => False) w2).drew)
        obtain ⟨d0, d1, d2, d3, d4, d5, d6, _, df⟩ := jb_cells HK3.out.jr
        have hjl2 := HK3.out.jr.lt
        have HF3 := Lib.hid (HF2.out.drew)
        clear hy hyb hyz KBn hk2s HK2 HF2
        go_wp2_with fail
        go_region_held3 (fun W => W.cell? ⟨jb, 0, none⟩ = some (.string (safeT k2.o)) ∧ W.cell? ⟨jb, 1, none⟩ = some (.bool k2.o.isSome) ∧ W.cell? ⟨jb, 3, none⟩ = some (.int .i64 (k2.nth : Int)) ∧ W.cell? ⟨jb, 4, none⟩ = some (.int .i64 (k2.first : Int))) (first | exact ⟨d0, d1, d3, d4⟩ | exact s5 | exact s6) (first | (go_at_call 55; refine (KH _).mono ?_; rintro e w5 ⟨rfl, f5⟩; have HK5 := Lib.hid (HK3.out.fr f5); have HF5 := Lib.hid (HF3.out.trans f5 fun _ _ h => h.elim); have s5 : w5.cell? ⟨jb, 0, none⟩ = some (.string (safeT k2.o)) ∧ w5.cell? ⟨jb, 1, none⟩ = some (.bool k2.o.isSome) ∧ w5.cell? ⟨jb, 3, none⟩ = some (.int .i64 (k2.nth : Int)) ∧ w5.cell? ⟨jb, 4, none⟩ = some (.int .i64 (k2.first : Int)) := ⟨HK5.out.jr.cell 0, HK5.out.jr.cell 1, HK5.out.jr.cell 3, HK5.out.jr.cell 4⟩; clear f5) | (go_at_call 37; refine (HKB.out _ HK5.out).mono ?_; rintro e w6 ⟨rfl, M6, F6⟩; have s6 : w6.cell? ⟨jb, 0, none⟩ = some (.string (safeT k2.o)) ∧ w6.cell? ⟨jb, 1, none⟩ = some (.bool k2.o.isSome) ∧ w6.cell? ⟨jb, 3, none⟩ = some (.int .i64 (k2.nth : Int)) ∧ w6.cell? ⟨jb, 4, none⟩ = some (.int .i64 (k2.first : Int)) := ⟨M6.jr.cell 0, M6.jr.cell 1, M6.jr.cell 3, M6.jr.cell 4⟩))
        have HM6 := Lib.hid M6
        have HF6 := Lib.hid (HF5.out.trans F6 fun _ _ h => h)
        clear s5 s6 M6 F6 d0 d1 d2 d3 d4 d5 d6 df
        go_wp2_with fail
        go_ret
        first | rw [HKT.out, HT1.out, HEQ.out] | rw [HKT.out, HT1.out]
        exact ⟨rfl, HM6.out, HF6.out⟩
      · have hT1 : k.turn1 = (en, { k with m := k.m.eraseM (pn : Int) }) := by
          unfold Jm.turn1
          rw [HPG.out, ← HPN.out, ← HBN.out, if_pos hb, ← HEN.out, if_neg he]
        have q3 : ((en : Int) != 0) = true := by simpa using he
        have HT1 := Lib.hid hT1
        clear hT1 he hb HEN HK HFK
        go_wp2_with fail
        go_ret
        rw [HKT.out, HT1.out]
        exact ⟨rfl, HK2.out, HF2.out⟩
    · have q2 : decide ((0 : Int) < (bn : Int)) = false := decide_eq_false (by omega)
      have hT1 : k.turn1 = k.burn k.head := by
        unfold Jm.turn1
        rw [HPG.out, ← HPN.out, ← HBN.out, if_neg hb]
      have HT1 := Lib.hid hT1
      have hk2s := hks
      have hko : (k.o.getD []).length ≤ 1000 := hks.o
      have HK2 := HK
      have HF2 := HFK
      obtain ⟨k2, hk2⟩ : ∃ k2 : Jm, k2 = k := ⟨_, rfl⟩
      obtain ⟨w2, hw2⟩ : ∃ w2 : World, w2 = W := ⟨_, rfl⟩
      have HEQ : Hid (k2.burn k.head = k2.burn k2.head) := Lib.hid (by rw [hk2])
      rw [← hk2] at HT1 hk2s hko HK2
      rw [← hw2] at HK2 HF2
      have HE := Lib.hid (show k2.nth = k.nth ∧ k2.first = k.first ∧ k2.head = k.head from by rw [hk2]; exact ⟨rfl, rfl, rfl⟩)
      have hn9 : k2.nth ≤ 4294967200 := hk2s.nth
      have hf9 : k2.first ≤ 4294967200 := hk2s.first
      clear hT1 KE
      subst hk2 hw2
      have KH := fun W => head_any k2.nth k2.first k2.o (by omega) (by omega) hko W
      obtain ⟨y, hy⟩ : ∃ y : ByteArray, y = ⟨(Jo.fram (Jo.headB k2.nth k2.first k2.o)).toArray⟩ := ⟨_, rfl⟩
      rw [← hy] at KH
      have hyb : bytesOf y = k2.head := by rw [hy]; rfl
      have hyz : y.size ≤ 5000 := by
        rw [← bytesOf_length, hyb]
        show (Jo.fram (Jo.headB k2.nth k2.first k2.o)).length ≤ 5000
        rw [Jo.fram_length, Jo.headB_length]
        omega
      have KBn := fun (W : World) (hW : JM W jb mb r k2) => jm_burn hW hk2s y hyz
      rw [hyb] at KBn
      have HKB := Lib.hid KBn
      have HK3 := Lib.hid (HK2.out.fr (Fr.refl (fun _ => False) w2).drew)
      obtain ⟨d0, d1, d2, d3, d4, d5, d6, _, df⟩ := jb_cells HK3.out.jr
      have hjl2 := HK3.out.jr.lt
      have HF3 := Lib.hid (HF2.out.drew)
      clear hy hyb hyz KBn hk2s HK2 HF2
      go_wp2_with fail
      go_region_held3 (fun W => W.cell? ⟨jb, 0, none⟩ = some (.string (safeT k2.o)) ∧ W.cell? ⟨jb, 1, none⟩ = some (.bool k2.o.isSome) ∧ W.cell? ⟨jb, 3, none⟩ = some (.int .i64 (k2.nth : Int)) ∧ W.cell? ⟨jb, 4, none⟩ = some (.int .i64 (k2.first : Int))) (first | exact ⟨d0, d1, d3, d4⟩ | exact s5 | exact s6) (first | (go_at_call 55; refine (KH _).mono ?_; rintro e w5 ⟨rfl, f5⟩; have HK5 := Lib.hid (HK3.out.fr f5); have HF5 := Lib.hid (HF3.out.trans f5 fun _ _ h => h.elim); have s5 : w5.cell? ⟨jb, 0, none⟩ = some (.string (safeT k2.o)) ∧ w5.cell? ⟨jb, 1, none⟩ = some (.bool k2.o.isSome) ∧ w5.cell? ⟨jb, 3, none⟩ = some (.int .i64 (k2.nth : Int)) ∧ w5.cell? ⟨jb, 4, none⟩ = some (.int .i64 (k2.first : Int)) := ⟨HK5.out.jr.cell 0, HK5.out.jr.cell 1, HK5.out.jr.cell 3, HK5.out.jr.cell 4⟩; clear f5) | (go_at_call 37; refine (HKB.out _ HK5.out).mono ?_; rintro e w6 ⟨rfl, M6, F6⟩; have s6 : w6.cell? ⟨jb, 0, none⟩ = some (.string (safeT k2.o)) ∧ w6.cell? ⟨jb, 1, none⟩ = some (.bool k2.o.isSome) ∧ w6.cell? ⟨jb, 3, none⟩ = some (.int .i64 (k2.nth : Int)) ∧ w6.cell? ⟨jb, 4, none⟩ = some (.int .i64 (k2.first : Int)) := ⟨M6.jr.cell 0, M6.jr.cell 1, M6.jr.cell 3, M6.jr.cell 4⟩))
      have HM6 := Lib.hid M6
      have HF6 := Lib.hid (HF5.out.trans F6 fun _ _ h => h)
      clear s5 s6 M6 F6 d0 d1 d2 d3 d4 d5 d6 df
      go_wp2_with fail
      go_ret
      first | rw [HKT.out, HT1.out, HEQ.out] | rw [HKT.out, HT1.out]
      exact ⟨rfl, HM6.out, HF6.out⟩
end Go.Proofs.YtdoljggaoidljaaGreat

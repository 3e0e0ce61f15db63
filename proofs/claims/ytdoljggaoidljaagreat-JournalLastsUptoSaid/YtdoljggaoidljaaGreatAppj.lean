/- The contracts of the journal's put and Append, as a machine of plain data. -/
import Derived.Test.YtdoljggaoidljaaGreatTurnj
import Derived.Deep.CutRange
namespace Go.Proofs.YtdoljggaoidljaaGreat
open Go.RowKit

namespace Jm
/-- a record is burnt where the journal stands -/
def addj (j : Jm) (r : Jo.Rc) : Nat × Jm := if (j.burn (Jo.fram (Jo.recB r))).1 = 0 then (0, { (j.burn (Jo.fram (Jo.recB r))).2 with next := j.next + 1, o := Jo.lastSafe j.o [r] }) else j.burn (Jo.fram (Jo.recB r))
def room (j : Jm) (t : List UInt8) : Bool := decide (j.m.bare j.page ≤ j.stop) && decide (j.stop + t.length ≤ 4096)
def put (j : Jm) (r : Jo.Rc) : Nat × Jm := if j.room (Jo.fram (Jo.recB r)) = true then j.addj r else if j.turn.1 = 0 then j.turn.2.addj r else j.turn
end Jm
/-- its numbers are small, with some room -/
structure Jok (d : Nat) (j : Jm) : Prop where
  acts : j.m.acts ≤ 1152921504606846976 + d
  worn : ∀ p, j.m.worn p ≤ 1152921504606846976 + d
  nth : j.nth ≤ 4294960000 + d
  first : j.first ≤ 4294960000 + d
  next : j.next ≤ 4294960000 + d
  stop : j.stop ≤ 4096
  o : (j.o.getD []).length ≤ 1000
theorem Jok.small {d : Nat} {j : Jm} (h : Jok d j) (hd : d ≤ 100) : Jsmall j := ⟨by have := h.acts; omega, fun p => by have := h.worn p; omega, by have := h.nth; omega, by have := h.first; omega, by have := h.next; omega, h.stop, h.o⟩
theorem Jok.burn {d : Nat} {j : Jm} (h : Jok d j) (t : List UInt8) (hs : j.stop + t.length ≤ 4096) : Jok (d + 1) (j.burn t).2 := by
  obtain ⟨q1, q2⟩ := burn_acts j.m j.page j.stop t
  refine ⟨?_, fun p => ?_, Nat.le_succ_of_le h.nth, Nat.le_succ_of_le h.first, Nat.le_succ_of_le h.next, ?_, h.o⟩
  · have := h.acts
    show (j.m.burnM _ _ _).acts ≤ _
    omega
  · have := h.worn p
    show (j.m.burnM _ _ _).worn p ≤ _
    rw [q2]
    omega
  · show (if _ then _ else _) ≤ _
    split <;> omega
theorem Jok.turn {d : Nat} {j : Jm} (h : Jok d j) : Jok (d + 3) j.turn.2 := by
  have h0 : Jok (d + 1) j.turn0 := by
    refine ⟨Nat.le_succ_of_le h.acts, fun p => Nat.le_succ_of_le (h.worn p), ?_, ?_, Nat.le_succ_of_le h.next, Nat.zero_le _, h.o⟩
    · have q1 := h.nth
      show (if j.first < j.next then j.nth + 1 else j.nth) ≤ 4294960000 + (d + 1)
      split
      · omega
      · omega
    · have q1 := h.first
      have q2 := h.next
      show (if j.first < j.next then j.next else j.first) ≤ _
      split
      · omega
      · omega
  have hz : j.turn0.stop = 0 := rfl
  show Jok (d + 3) j.turn0.turn1.2
  generalize j.turn0 = k at *
  have hl : k.stop + k.head.length ≤ 4096 := by
    rw [hz]
    unfold Jm.head
    rw [Jo.fram_length, Jo.headB_length]
    have := h0.o
    omega
  have up : ∀ {e : Nat} {x : Jm}, Jok e x → Jok (e + 1) x := fun h => ⟨Nat.le_succ_of_le h.acts, fun p => Nat.le_succ_of_le (h.worn p), Nat.le_succ_of_le h.nth, Nat.le_succ_of_le h.first, Nat.le_succ_of_le h.next, h.stop, h.o⟩
  have he : Jok (d + 2) { k with m := k.m.eraseM k.page } := by
    refine ⟨?_, fun p => ?_, Nat.le_succ_of_le h0.nth, Nat.le_succ_of_le h0.first, Nat.le_succ_of_le h0.next, h0.stop, h0.o⟩
    · have := erase_acts k.m k.page
      have := h0.acts
      show (k.m.eraseM _).acts ≤ _
      omega
    · have := erase_worn k.m k.page p
      have := h0.worn p
      show (k.m.eraseM _).worn p ≤ _
      omega
  unfold Jm.turn1
  split
  · split
    · exact he.burn _ hl
    · exact up he
  · exact up (h0.burn _ hl)
theorem Jok.up {d : Nat} {j : Jm} (h : Jok d j) : Jok (d + 1) j := ⟨Nat.le_succ_of_le h.acts, fun p => Nat.le_succ_of_le (h.worn p), Nat.le_succ_of_le h.nth, Nat.le_succ_of_le h.first, Nat.le_succ_of_le h.next, h.stop, h.o⟩
theorem burn_stop (j : Jm) (t : List UInt8) : (j.burn t).2.stop ≤ j.stop + t.length := by
  have e : (j.burn t).2.stop = if j.m.burnE j.page j.stop t = 0 then j.stop + t.length else j.stop := rfl
  rw [e]
  split <;> omega
theorem turn_stop (j : Jm) (ho : (j.o.getD []).length ≤ 1000) : j.turn.2.stop ≤ 1016 := by
  have hz : j.turn0.stop = 0 := rfl
  have ho' : (j.turn0.o.getD []).length ≤ 1000 := ho
  show j.turn0.turn1.2.stop ≤ _
  generalize j.turn0 = k at *
  have hl : k.head.length ≤ 1016 := by
    unfold Jm.head
    rw [Jo.fram_length, Jo.headB_length]
    omega
  have hk0 : k.stop = 0 := hz
  unfold Jm.turn1
  split
  · split
    · have := burn_stop { k with m := k.m.eraseM k.page } k.head
      have e : ({ k with m := k.m.eraseM k.page } : Jm).stop = k.stop := rfl
      omega
    · show k.stop ≤ _
      omega
  · have := burn_stop k k.head
    omega
theorem note_rec {w : World} {b : Nat} {t : TypeId} {cs : Array Value} {o : Option (List UInt8)} (hb : Is w b t cs) (h0 : cs[0]? = some (.string (safeT o))) (h1 : cs[1]? = some (.bool o.isSome)) (n : Nat) (k : Int) (x : ByteArray) {g c : Nat} (hl : Rd w (some ⟨g, 0, none⟩) [.int .i64 (n : Int), .int .i64 k, .string x]) (hg : g ≠ b) :
    Calls Tryz.prog 21 #[.pointer (some ⟨b, 0, none⟩), .slice (some ⟨g, 0, none⟩) 1 c] w fun e w' => e = .returned (.tuple #[]) ∧ Is w' b t (safeSet cs (Jo.lastSafe o [⟨k, bytesOf x⟩])) ∧ Fr (fun j => j = b) w w' := by
  have hx : (⟨(bytesOf x).toArray⟩ : ByteArray) = x := bytes_eq rfl
  refine note_any hb h0 h1 (A := some ⟨g, 0, none⟩) (c := c) (n := n) (l := [⟨k, bytesOf x⟩]) ?_ (fun _ q hq => ?_) (by simp)
  · show Rd w _ [.int .i64 (n : Int), .int .i64 k, .string ⟨(bytesOf x).toArray⟩]
    rw [hx]
    exact hl
  · have e : g = q := by injection hq
    exact e ▸ hg
set_option maxRecDepth 10000 in
set_option maxHeartbeats 8000000 in
theorem put_any {w : World} {jb mb : Nat} {r : Option Nat} {j : Jm} (h : JM w jb mb r j) (hs : Jok 0 j) (n : Nat) (k : Int) (x : ByteArray) (hk : k = 1 ∨ k = 2) (hx : x.size ≤ 1000) :
    Calls Tryz.prog 23 #[.pointer (some ⟨jb, 0, none⟩), .agg #[.int .i64 (n : Int), .int .i64 k, .string x]] w fun e w' => e = .returned (.int .i64 ((j.put ⟨k, bytesOf x⟩).1 : Nat)) ∧ JM w' jb mb r (j.put ⟨k, bytesOf x⟩).2 ∧ JF w w' jb mb r := by
  have f1 := (Fr.refl (fun _ => False) w).alloc (.cells #[.int .i64 (n : Int), .int .i64 k, .string x] 49)
  have i1 := Is.new w 49 #[.int .i64 (n : Int), .int .i64 k, .string x]
  obtain ⟨rb, hrb⟩ : ∃ rb, rb = w.heap.size := ⟨_, rfl⟩
  rw [← hrb] at i1
  have hjl := h.jr.lt
  have HNE : Hid (rb ≠ jb ∧ ¬ Foot mb r rb) := Lib.hid ⟨by omega, fun e => by have := mem_foot' h.mem rb e; omega⟩
  have HH1 := Lib.hid (h.fr f1)
  have HF1 := Lib.hid f1
  have HI1 := Lib.hid i1
  have KR := fun W => record_any (n : Int) k x hk hx W
  obtain ⟨y, hy⟩ : ∃ y : ByteArray, y = ⟨(Jo.fram (Jo.recB ⟨k, bytesOf x⟩)).toArray⟩ := ⟨_, rfl⟩
  have hyb : bytesOf y = Jo.fram (Jo.recB ⟨k, bytesOf x⟩) := by rw [hy]; rfl
  have hyl : y.size = x.size + 8 := by rw [← bytesOf_length, hyb, Jo.fram_length, Jo.recB_length, bytesOf_length]
  rw [← hy] at KR
  have HYB := Lib.hid hyb
  have HS := Lib.hid hs
  have HKX : Hid ((k = 1 ∨ k = 2) ∧ x.size ≤ 1000 ∧ y.size ≤ 1008) := Lib.hid ⟨hk, hx, by omega⟩
  obtain ⟨j0, j1, j2⟩ : (w.alloc (.cells #[.int .i64 (n : Int), .int .i64 k, .string x] 49)).cell? ⟨rb, 0, none⟩ = some (.int .i64 (n : Int)) ∧ (w.alloc (.cells #[.int .i64 (n : Int), .int .i64 k, .string x] 49)).cell? ⟨rb, 1, none⟩ = some (.int .i64 k) ∧ (w.alloc (.cells #[.int .i64 (n : Int), .int .i64 k, .string x] 49)).cell? ⟨rb, 2, none⟩ = some (.string x) := ⟨i1.cell 0, i1.cell 1, i1.cell 2⟩
  have hri := i1.lt
  clear hy hyb hyl h hs hk hx f1 i1 hjl
  go_enter Tryz.func23, Tryz.ntmps23
  go_wp2_with fail
  rw [← hrb]
  clear hrb
  refine (KR _).mono ?_
  clear KR
  rintro e w2 ⟨rfl, F2⟩
  have HH2 := Lib.hid (HH1.out.fr F2)
  have HF2 := Lib.hid (HF1.out.trans F2 fun _ _ h => h)
  have HI2 := Lib.hid (HI1.out.fr F2 id)
  clear F2 HH1 HF1 HI1 j0 j1 j2 hri
  have KM := room_any HH2.out.jr HH2.out.mem (by have := HS.out.nth; omega) HS.out.stop y (by have := HKX.out.2.2; omega)
  have hrm : (decide (j.m.bare ((j.nth % 24 : Nat) : Int) ≤ j.stop) && decide (j.stop + y.size ≤ 4096)) = j.room (Jo.fram (Jo.recB ⟨k, bytesOf x⟩)) := by
    unfold Jm.room
    rw [← HYB.out, bytesOf_length]
    rfl
  rw [hrm] at KM
  obtain ⟨rm, hrmm⟩ : ∃ rm, rm = j.room (Jo.fram (Jo.recB ⟨k, bytesOf x⟩)) := ⟨_, rfl⟩
  rw [← hrmm] at KM
  have HRM := Lib.hid hrmm
  clear hrm hrmm
  go_wp2_with fail
  refine KM.mono ?_
  clear KM
  rintro e w3 ⟨rfl, F3⟩
  have HH3 := Lib.hid (HH2.out.fr F3)
  have HF3 := Lib.hid (HF2.out.trans F3 fun _ _ h => h)
  have HI3 := Lib.hid (HI2.out.fr F3 id)
  clear F3 HH2 HF2 HI2
  cases rm
  · have KT := turn_any HH3.out (HS.out.small (by decide)) ⟨by have := HS.out.nth; omega, by have := HS.out.acts; omega, fun p => by have := HS.out.worn p; omega⟩
    obtain ⟨et, het⟩ : ∃ et, et = j.turn.1 := ⟨_, rfl⟩
    obtain ⟨q, hq⟩ : ∃ q, q = j.turn.2 := ⟨_, rfl⟩
    rw [← het, ← hq] at KT
    have HQK : Hid (Jok 3 q) := Lib.hid (by rw [hq]; exact HS.out.turn)
    have HTP : Hid (j.put ⟨k, bytesOf x⟩ = if et = 0 then q.addj ⟨k, bytesOf x⟩ else (et, q)) := Lib.hid (by
      unfold Jm.put
      rw [← HRM.out, if_neg (by decide), het, hq])
    clear het hq
    go_wp2_with fail
    refine KT.mono ?_
    clear KT
    rintro e w4 ⟨rfl, M4, F4⟩
    have HQ := Lib.hid M4
    have HFQ : Hid (JF w w4 jb mb r) := Lib.hid ((HF3.out.mono fun _ _ h => h.elim).trans (S := fun j => Foot mb r j ∨ j = jb) F4 fun _ _ h => h)
    have HIQ := Lib.hid (HI3.out.fr F4 fun e => by rcases e with e | e; exact HNE.out.2 e; exact HNE.out.1 e)
    clear M4 F4 HH3 HF3 HI3
    by_cases het : et = 0
    · have q1 : ((et : Int) != 0) = false := by rw [het]; rfl
      have HPU := Lib.hid (HTP.out.trans (if_pos het))
      clear het HTP
      have KB := jm_burn HQ.out (HQK.out.small (by decide)) y (by have := HKX.out.2.2; omega)
      rw [HYB.out] at KB
      obtain ⟨eb, heb⟩ : ∃ eb, eb = (q.burn (Jo.fram (Jo.recB ⟨k, bytesOf x⟩))).1 := ⟨_, rfl⟩
      obtain ⟨qb, hqb⟩ : ∃ qb, qb = (q.burn (Jo.fram (Jo.recB ⟨k, bytesOf x⟩))).2 := ⟨_, rfl⟩
      have hqo : qb.o = q.o ∧ qb.next = q.next := by rw [hqb]; exact ⟨rfl, rfl⟩
      rw [← heb, ← hqb] at KB
      have HAD : Hid (q.addj ⟨k, bytesOf x⟩ = if eb = 0 then (0, { qb with next := q.next + 1, o := Jo.lastSafe q.o [⟨k, bytesOf x⟩] }) else (eb, qb)) := Lib.hid (by
        unfold Jm.addj
        rw [heb, hqb])
      have HQO := Lib.hid hqo
      have hnx : qb.next ≤ 4294967200 := by rw [hqo.2]; have := HQK.out.next; omega
      clear heb hqb hqo
      go_wp2_with fail
      refine KB.mono ?_
      clear KB
      rintro e w5 ⟨rfl, M5, F5⟩
      have HM5 := Lib.hid M5
      have HF5 := Lib.hid (HFQ.out.trans F5 fun _ _ h => h)
      have HI5 := Lib.hid (HIQ.out.fr F5 fun e => by rcases e with e | e; exact HNE.out.2 e; exact HNE.out.1 e)
      clear M5 F5 HFQ HIQ
      by_cases he : eb = 0
      · have q3 : ((eb : Int) != 0) = false := by rw [he]; rfl
        have HAD2 := Lib.hid (HAD.out.trans (if_pos he))
        clear he HAD
        obtain ⟨d0, d1, d2, d3, d4, d5, d6, d7, df⟩ := jb_cells HM5.out.jr
        have hjl5 := HM5.out.jr.lt
        have e0 := HI5.out.cell 0
        have e1 := HI5.out.cell 1
        have e2 := HI5.out.cell 2
        simp at e0 e1 e2
        have hne1 := HNE.out.1
        have hrl5 := HI5.out.lt
        go_upto_region 10 with fail
        obtain ⟨W6, hW6⟩ : ∃ W6, W6 = w5.setCell ⟨jb, 5, none⟩ (.int .i64 ((qb.next : Int) + 1)) := ⟨_, rfl⟩
        rw [← hW6]
        have F6 : Fr (fun i => i = jb) w5 W6 := by rw [hW6]; exact (Fr.refl (fun i => i = jb) w5).setCell (p := ⟨jb, 5, none⟩) (.inl rfl) _
        have J6 : Jb W6 jb qb.o mb qb.nth qb.first (qb.next + 1) qb.stop false := by rw [hW6]; exact HM5.out.jr.set 5 _
        have I6 := HI5.out.fr F6 hne1
        have hjl6 := J6.lt
        have hrl6 := I6.lt
        have al : ∀ (ob : Obj) (i : Nat), (W6.drew.alloc ob).cell? ⟨rb, i, none⟩ = W6.drew.cell? ⟨rb, i, none⟩ := fun ob i => ((Fr.refl (fun _ => False) W6.drew).alloc ob).cell (p := ⟨rb, i, none⟩) hrl6 id
        have u0 : W6.drew.cell? ⟨rb, 0, none⟩ = some (.int .i64 (n : Int)) ∧ W6.drew.cell? ⟨rb, 1, none⟩ = some (.int .i64 k) ∧ W6.drew.cell? ⟨rb, 2, none⟩ = some (.string x) := ⟨I6.cell 0, I6.cell 1, I6.cell 2⟩
        have f7 := ((Fr.refl (fun _ => False) W6).drew).alloc (.cells #[.int .i64 (n : Int), .int .i64 k, .string x] 49)
        have J7 := J6.fr f7 id
        have KNT := note_rec (o := qb.o) J7 rfl rfl n k x (g := W6.drew.heap.size) (c := 1) (lit_rd W6.drew [.int .i64 (n : Int), .int .i64 k, .string x] 49) (fun e => by have : jb < W6.drew.heap.size := hjl6; omega)
        have HF6 := Lib.hid F6
        have HF7 := Lib.hid f7
        have HHM : Hid (Mem W6 mb r qb.m) := Lib.hid (HM5.out.mem.fr F6 (fun e => HM5.out.off (.inl e.symm)) fun i hi e => HM5.out.off (.inr (by rw [hi, e])))
        clear hW6 F6 J6 I6 f7 J7 d0 d1 d2 d3 d4 d5 d6 d7 df e0 e1 e2 hjl5 hrl5
        go_region_held3 (fun W => W.cell? ⟨rb, 0, none⟩ = some (.int .i64 (n : Int)) ∧ W.cell? ⟨rb, 1, none⟩ = some (.int .i64 k) ∧ W.cell? ⟨rb, 2, none⟩ = some (.string x)) (first | exact u0 | exact ⟨(al _ 0).trans u0.1, (al _ 1).trans u0.2.1, (al _ 2).trans u0.2.2⟩ | exact u9) (first | (go_at_call 21; refine KNT.mono ?_; rintro e w9 ⟨rfl, J9, F9⟩; have u9 : w9.cell? ⟨rb, 0, none⟩ = some (.int .i64 (n : Int)) ∧ w9.cell? ⟨rb, 1, none⟩ = some (.int .i64 k) ∧ w9.cell? ⟨rb, 2, none⟩ = some (.string x) := ⟨(F9.cell (p := ⟨rb, 0, none⟩) (Nat.lt_of_lt_of_le hrl6 HF7.out.size) hne1).trans ((al _ 0).trans u0.1), (F9.cell (p := ⟨rb, 1, none⟩) (Nat.lt_of_lt_of_le hrl6 HF7.out.size) hne1).trans ((al _ 1).trans u0.2.1), (F9.cell (p := ⟨rb, 2, none⟩) (Nat.lt_of_lt_of_le hrl6 HF7.out.size) hne1).trans ((al _ 2).trans u0.2.2)⟩))
        all_goals
          have HJ9 := Lib.hid J9
          have HF9 := Lib.hid F9
          clear J9 F9 u0 u9 al
          go_wp2_with fail
          go_ret
          rw [HPU.out, HAD2.out]
          have F69 : Fr (fun i => i = jb) W6 _ := ((HF7.out.mono fun _ _ h => h.elim).trans HF9.out fun _ _ h => h)
          refine ⟨rfl, ⟨HHM.out.fr F69 (fun e => HM5.out.off (.inl e.symm)) (fun i hi e => HM5.out.off (.inr (by rw [hi, e]))), ?_, HM5.out.off⟩, (HF5.out.trans (S := fun j => Foot mb r j ∨ j = jb) HF6.out fun _ _ h => .inr h).trans F69 fun _ _ h => .inr h⟩
          have hj := HJ9.out
          rw [HQO.out.1, HQO.out.2] at hj
          exact hj
      · have q3 : ((eb : Int) != 0) = true := by simpa using he
        have HAD2 := Lib.hid (HAD.out.trans (if_neg he))
        clear he HAD
        go_wp2_with fail
        go_ret
        rw [HPU.out, HAD2.out]
        exact ⟨rfl, HM5.out, HF5.out⟩
    · have q1 : ((et : Int) != 0) = true := by simpa using het
      have HPU := Lib.hid (HTP.out.trans (if_neg het))
      clear het HTP
      go_wp2_with fail
      go_ret
      rw [HPU.out]
      exact ⟨rfl, HQ.out, HFQ.out⟩
  · obtain ⟨q, hq⟩ : ∃ q : Jm, q = j := ⟨_, rfl⟩
    have HPU : Hid (j.put ⟨k, bytesOf x⟩ = q.addj ⟨k, bytesOf x⟩) := Lib.hid (by
      unfold Jm.put
      rw [← HRM.out, if_pos rfl, hq])
    have HQ := HH3
    have HQK : Hid (Jok 3 j) := Lib.hid HS.out.up.up.up
    have HFQ : Hid (JF w w3 jb mb r) := Lib.hid (HF3.out.mono fun _ _ h => h.elim)
    have HIQ := HI3
    rw [← hq] at HQ HQK
    clear hq HH3 HF3 HI3 HS HRM
    have KB := jm_burn HQ.out (HQK.out.small (by decide)) y (by have := HKX.out.2.2; omega)
    rw [HYB.out] at KB
    obtain ⟨eb, heb⟩ : ∃ eb, eb = (q.burn (Jo.fram (Jo.recB ⟨k, bytesOf x⟩))).1 := ⟨_, rfl⟩
    obtain ⟨qb, hqb⟩ : ∃ qb, qb = (q.burn (Jo.fram (Jo.recB ⟨k, bytesOf x⟩))).2 := ⟨_, rfl⟩
    have hqo : qb.o = q.o ∧ qb.next = q.next := by rw [hqb]; exact ⟨rfl, rfl⟩
    rw [← heb, ← hqb] at KB
    have HAD : Hid (q.addj ⟨k, bytesOf x⟩ = if eb = 0 then (0, { qb with next := q.next + 1, o := Jo.lastSafe q.o [⟨k, bytesOf x⟩] }) else (eb, qb)) := Lib.hid (by
      unfold Jm.addj
      rw [heb, hqb])
    have HQO := Lib.hid hqo
    have hnx : qb.next ≤ 4294967200 := by rw [hqo.2]; have := HQK.out.next; omega
    clear heb hqb hqo
    go_wp2_with fail
    refine KB.mono ?_
    clear KB
    rintro e w5 ⟨rfl, M5, F5⟩
    have HM5 := Lib.hid M5
    have HF5 := Lib.hid (HFQ.out.trans F5 fun _ _ h => h)
    have HI5 := Lib.hid (HIQ.out.fr F5 fun e => by rcases e with e | e; exact HNE.out.2 e; exact HNE.out.1 e)
    clear M5 F5 HFQ HIQ
    by_cases he : eb = 0
    · have q3 : ((eb : Int) != 0) = false := by rw [he]; rfl
      have HAD2 := Lib.hid (HAD.out.trans (if_pos he))
      clear he HAD
      obtain ⟨d0, d1, d2, d3, d4, d5, d6, d7, df⟩ := jb_cells HM5.out.jr
      have hjl5 := HM5.out.jr.lt
      have e0 := HI5.out.cell 0
      have e1 := HI5.out.cell 1
      have e2 := HI5.out.cell 2
      simp at e0 e1 e2
      have hne1 := HNE.out.1
      have hrl5 := HI5.out.lt
      go_upto_region 10 with fail
      obtain ⟨W6, hW6⟩ : ∃ W6, W6 = w5.setCell ⟨jb, 5, none⟩ (.int .i64 ((qb.next : Int) + 1)) := ⟨_, rfl⟩
      rw [← hW6]
      have F6 : Fr (fun i => i = jb) w5 W6 := by rw [hW6]; exact (Fr.refl (fun i => i = jb) w5).setCell (p := ⟨jb, 5, none⟩) (.inl rfl) _
      have J6 : Jb W6 jb qb.o mb qb.nth qb.first (qb.next + 1) qb.stop false := by rw [hW6]; exact HM5.out.jr.set 5 _
      have I6 := HI5.out.fr F6 hne1
      have hjl6 := J6.lt
      have hrl6 := I6.lt
      have al : ∀ (ob : Obj) (i : Nat), (W6.drew.alloc ob).cell? ⟨rb, i, none⟩ = W6.drew.cell? ⟨rb, i, none⟩ := fun ob i => ((Fr.refl (fun _ => False) W6.drew).alloc ob).cell (p := ⟨rb, i, none⟩) hrl6 id
      have u0 : W6.drew.cell? ⟨rb, 0, none⟩ = some (.int .i64 (n : Int)) ∧ W6.drew.cell? ⟨rb, 1, none⟩ = some (.int .i64 k) ∧ W6.drew.cell? ⟨rb, 2, none⟩ = some (.string x) := ⟨I6.cell 0, I6.cell 1, I6.cell 2⟩
      have f7 := ((Fr.refl (fun _ => False) W6).drew).alloc (.cells #[.int .i64 (n : Int), .int .i64 k, .string x] 49)
      have J7 := J6.fr f7 id
      have KNT := note_rec (o := qb.o) J7 rfl rfl n k x (g := W6.drew.heap.size) (c := 1) (lit_rd W6.drew [.int .i64 (n : Int), .int .i64 k, .string x] 49) (fun e => by have : jb < W6.drew.heap.size := hjl6; omega)
      have HF6 := Lib.hid F6
      have HF7 := Lib.hid f7
      have HHM : Hid (Mem W6 mb r qb.m) := Lib.hid (HM5.out.mem.fr F6 (fun e => HM5.out.off (.inl e.symm)) fun i hi e => HM5.out.off (.inr (by rw [hi, e])))
      clear hW6 F6 J6 I6 f7 J7 d0 d1 d2 d3 d4 d5 d6 d7 df e0 e1 e2 hjl5 hrl5
      go_region_held3 (fun W => W.cell? ⟨rb, 0, none⟩ = some (.int .i64 (n : Int)) ∧ W.cell? ⟨rb, 1, none⟩ = some (.int .i64 k) ∧ W.cell? ⟨rb, 2, none⟩ = some (.string x)) (first | exact u0 | exact ⟨(al _ 0).trans u0.1, (al _ 1).trans u0.2.1, (al _ 2).trans u0.2.2⟩ | exact u9) (first | (go_at_call 21; refine KNT.mono ?_; rintro e w9 ⟨rfl, J9, F9⟩; have u9 : w9.cell? ⟨rb, 0, none⟩ = some (.int .i64 (n : Int)) ∧ w9.cell? ⟨rb, 1, none⟩ = some (.int .i64 k) ∧ w9.cell? ⟨rb, 2, none⟩ = some (.string x) := ⟨(F9.cell (p := ⟨rb, 0, none⟩) (Nat.lt_of_lt_of_le hrl6 HF7.out.size) hne1).trans ((al _ 0).trans u0.1), (F9.cell (p := ⟨rb, 1, none⟩) (Nat.lt_of_lt_of_le hrl6 HF7.out.size) hne1).trans ((al _ 1).trans u0.2.1), (F9.cell (p := ⟨rb, 2, none⟩) (Nat.lt_of_lt_of_le hrl6 HF7.out.size) hne1).trans ((al _ 2).trans u0.2.2)⟩))
      all_goals
        have HJ9 := Lib.hid J9
        have HF9 := Lib.hid F9
        clear J9 F9 u0 u9 al
        go_wp2_with fail
        go_ret
        rw [HPU.out, HAD2.out]
        have F69 : Fr (fun i => i = jb) W6 _ := ((HF7.out.mono fun _ _ h => h.elim).trans HF9.out fun _ _ h => h)
        refine ⟨rfl, ⟨HHM.out.fr F69 (fun e => HM5.out.off (.inl e.symm)) (fun i hi e => HM5.out.off (.inr (by rw [hi, e]))), ?_, HM5.out.off⟩, (HF5.out.trans (S := fun j => Foot mb r j ∨ j = jb) HF6.out fun _ _ h => .inr h).trans F69 fun _ _ h => .inr h⟩
        have hj := HJ9.out
        rw [HQO.out.1, HQO.out.2] at hj
        exact hj
    · have q3 : ((eb : Int) != 0) = true := by simpa using he
      have HAD2 := Lib.hid (HAD.out.trans (if_neg he))
      clear he HAD
      go_wp2_with fail
      go_ret
      rw [HPU.out, HAD2.out]
      exact ⟨rfl, HM5.out, HF5.out⟩
end Go.Proofs.YtdoljggaoidljaaGreat

/- The contracts of the journal's whole and readRecords. -/
import Derived.Test.YtdoljggaoidljaaGreatFram
import Derived.Test.YtdoljggaoidljaaGreatWide
namespace Go.Proofs.YtdoljggaoidljaaGreat
open Go.RowKit

def wholeV : Option (List UInt8 × Nat) → Value
  | none => .tuple #[.string ⟨#[]⟩, .int .i64 0, .bool false]
  | some (b, e) => .tuple #[.string ⟨b.toArray⟩, .int .i64 (e : Int), .bool true]
theorem whole_no {t : List UInt8} {a : Nat} (h : (Se.nextL t (a : Int)).2.2 ≠ 0) : Jo.whole t a = none := by
  unfold Jo.whole
  rw [if_neg]
  rintro ⟨h1, h2, _⟩
  apply h
  unfold Se.nextL
  rw [if_neg (by omega), Int.toNat_natCast]
  exact h2
theorem next_yes {t : List UInt8} {a : Nat} (h : (Se.nextL t (a : Int)).2.2 = 0) : a ≤ t.length ∧ (Crc.headL (t.drop a)).2.2 = 0 ∧ Se.nextL t (a : Int) = ((Crc.headL (t.drop a)).1, ((a + (Crc.headL (t.drop a)).2.1 : Nat) : Int), 0) ∧ a + (Crc.headL (t.drop a)).2.1 ≤ t.length := by
  by_cases ha : a ≤ t.length
  · unfold Se.nextL at h ⊢
    rw [if_neg (by omega), Int.toNat_natCast] at h ⊢
    have h0 : (Crc.headL (t.drop a)).2.2 = 0 := h
    obtain ⟨k1, k2, k3, k4⟩ := Jo.head_ok h0
    rw [List.length_drop] at k1 k3
    refine ⟨ha, h0, ?_, by rw [k4]; omega⟩
    rw [if_pos h0, h0]
    rfl
  · unfold Se.nextL at h
    rw [if_pos (by omega)] at h
    simp at h
theorem whole_any (s : ByteArray) (hs : s.size ≤ 140737488355328) (a : Nat) (w : World) :
    Calls Tryz.prog 41 #[.string s, .int .i64 (a : Int)] w fun e w' => e = .returned (wholeV (Jo.whole (bytesOf s) a)) ∧ Fr (fun _ => False) w w' := by
  have K := Se.next_any s hs (a : Int) w
  have hbl := bytesOf_length s
  by_cases h : (Se.nextL (bytesOf s) (a : Int)).2.2 = 0
  · obtain ⟨h1, h2, h3, h4⟩ := next_yes h
    obtain ⟨k, hk⟩ : ∃ k, k = a + (Crc.headL ((bytesOf s).drop a)).2.1 := ⟨_, rfl⟩
    rw [h3] at K
    have hw : Jo.whole (bytesOf s) a = if (bytesOf s)[k]? = some 0 then some ((Crc.headL ((bytesOf s).drop a)).1, k + 1) else none := by
      unfold Jo.whole
      rw [← hk]
      by_cases hp : (bytesOf s)[k]? = some 0
      · rw [if_pos ⟨h1, h2, hp⟩, if_pos hp]
      · rw [if_neg fun q => hp q.2.2, if_neg hp]
    rw [hw]
    rw [← hk] at K h4
    have hx : (bytesOf (s.extract k s.size))[0]? = (bytesOf s)[k]? := by
      rw [bytesOf_extract, List.getElem?_drop, Nat.add_zero, List.getElem?_take]
      split
      · rfl
      · rw [List.getElem?_eq_none (by omega)]
    have KP := fun W => prefix_any (s.extract k s.size) (by rw [ByteArray.size_extract]; omega) W
    rw [hx] at KP
    have hks : k ≤ s.size := by omega
    generalize (Crc.headL ((bytesOf s).drop a)).1 = b at *
    obtain ⟨y, hy⟩ : ∃ y : ByteArray, y = ⟨b.toArray⟩ := ⟨_, rfl⟩
    rw [← hy] at K
    have HY := Lib.hid hy
    by_cases hp : (bytesOf s)[k]? = some 0
    · rw [if_pos hp]
      rw [decide_eq_true hp] at KP
      clear hy hp hx hw h h1 h2 h3 hk hbl h4
      go_enter Tryz.func41, Tryz.ntmps41
      go_wp2_with (first | (go_at_call 58; refine K.mono ?_; rintro e w1 ⟨rfl, F1⟩) | (go_at_call 59; refine (KP _).mono ?_; rintro e w2 ⟨rfl, rfl⟩))
      go_ret3
      exact ⟨by rw [HY.out]; rfl, F1⟩
    · rw [if_neg hp]
      rw [decide_eq_false hp] at KP
      clear hy hp hx hw h h1 h2 h3 hk hbl h4
      go_enter Tryz.func41, Tryz.ntmps41
      go_wp2_with (first | (go_at_call 58; refine K.mono ?_; rintro e w1 ⟨rfl, F1⟩) | (go_at_call 59; refine (KP _).mono ?_; rintro e w2 ⟨rfl, rfl⟩))
      go_ret3
      exact ⟨rfl, F1⟩
  · rw [whole_no h]
    have hb : ((Se.nextL (bytesOf s) (a : Int)).2.2 != 0) = true := by simpa using h
    clear h hbl
    generalize Se.nextL (bytesOf s) (a : Int) = p at *
    obtain ⟨p1, p2, p3⟩ := p
    simp only at K hb
    go_enter Tryz.func41, Tryz.ntmps41
    go_wp2_with (go_at_call 58; refine K.mono ?_; rintro e w1 ⟨rfl, F1⟩)
    go_ret3
    exact ⟨rfl, F1⟩
theorem lit_rd (w : World) (cs : List Value) (t : TypeId) : Rd (w.alloc (.cells cs.toArray t)) (some ⟨w.heap.size, 0, none⟩) cs := fun _ =>
  ⟨w.heap.size, 0, rfl, by simp, fun j u hu => by
    rw [World.cell?_alloc_at _ _ _ _ rfl, Nat.zero_add]
    simpa using hu⟩
theorem Tryz.infoRec : (Tryz.prog.info? 49).map (fun i => (i.zero, i.size, i.bytes)) = some (some (.agg #[.int .i64 0, .int .i64 0, .string .empty]), 3, 32) := by kernel_rfl
/-- records as they lie, numbered from n on -/
def recCells : Nat → List Jo.Rc → List Value
  | _, [] => []
  | n, r :: l => .int .i64 (n : Int) :: .int .i64 r.kind :: .string ⟨r.text.toArray⟩ :: recCells (n + 1) l
theorem recCells_length : ∀ (l : List Jo.Rc) (n : Nat), (recCells n l).length = l.length * 3
  | [], _ => rfl
  | r :: l, n => by
    show (recCells (n + 1) l).length + 1 + 1 + 1 = _
    rw [recCells_length l, List.length_cons]
    omega
theorem recCells_append : ∀ (l k : List Jo.Rc) (n : Nat), recCells n (l ++ k) = recCells n l ++ recCells (n + l.length) k
  | [], k, n => rfl
  | r :: l, k, n => by
    show _ :: _ :: _ :: recCells (n + 1) (l ++ k) = _ :: _ :: _ :: (recCells (n + 1) l ++ _)
    rw [recCells_append l k, List.length_cons, show n + 1 + l.length = n + (l.length + 1) by omega]
theorem recCells_one : ∀ (l : List Jo.Rc) (n : Nat), ∀ u ∈ recCells n l, u.oneCell' = true
  | [], _, u, h => by cases h
  | r :: l, n, u, h => by
    simp only [recCells, List.mem_cons] at h
    rcases h with rfl | rfl | rfl | h
    · rfl
    · rfl
    · rfl
    · exact recCells_one l (n + 1) u h
theorem whole_some {t : List UInt8} {a : Nat} {b : List UInt8} {e : Nat} (h : Jo.whole t a = some (b, e)) : a + 7 ≤ e ∧ e ≤ t.length ∧ b.length ≤ 1024 ∧ b = (Crc.headL (t.drop a)).1 := by
  unfold Jo.whole at h
  split at h
  · rename_i hc
    obtain ⟨h1, h2, h3⟩ := hc
    obtain ⟨k1, k2, k3, k4⟩ := Jo.head_ok h2
    injection h with h
    injection h with e1 e2
    have h4 := (List.getElem?_eq_some_iff.1 h3).1
    refine ⟨by omega, by omega, ?_, e1.symm⟩
    rw [← e1]
    unfold Crc.headL at h2 ⊢
    split at h2
    · cases h2
    · rename_i q1
      rw [if_neg q1]
      split at h2
      · cases h2
      · rename_i q2
        rw [if_neg q2]
        split at h2
        · cases h2
        · rename_i q3
          rw [if_neg q3]
          split at h2
          · rename_i q4
            rw [if_pos q4]
            show (((t.drop a).drop 2).take _).length ≤ 1024
            rw [List.length_take]
            omega
          · cases h2
  · cases h
/-- what Byte reads of a body, and what is left of it -/
theorem byte_kind (y : ByteArray) : Pa.val (Pa.bytesOf ((⟨y, false⟩ : Pa.Rs).tk 1)) = Jo.kindOf (bytesOf y) := by
  unfold Pa.Rs.tk Pa.Rs.no
  by_cases h : y.size < 1
  · have hz : bytesOf y = [] := List.eq_nil_of_length_eq_zero (by rw [bytesOf_length]; omega)
    rw [if_pos (by rw [Bool.false_or, decide_eq_true_eq]; exact h), hz]
    rfl
  · rw [if_neg (by rw [Bool.false_or, decide_eq_true_eq]; exact h), first_is y (by omega)]
    have e : bytesOf y = (y.data[0]'(by show 0 < y.size; omega)) :: (bytesOf y).drop 1 := by
      have := List.drop_eq_getElem_cons (l := bytesOf y) (i := 0) (by rw [bytesOf_length]; omega)
      rw [List.drop_zero] at this
      exact this
    rw [e]
    show (0 : Int) * 256 + _ = _
    rw [Int.zero_mul, Int.zero_add]
    rfl
theorem left_is (y : ByteArray) : bytesOf (y.extract (y.size - ((⟨y, false⟩ : Pa.Rs).aft 1).s.size) y.size) = (bytesOf y).drop 1 ∧ ((⟨y, false⟩ : Pa.Rs).aft 1).s.size ≤ y.size := by
  unfold Pa.Rs.aft Pa.Rs.no
  by_cases h : y.size < 1
  · have hz : bytesOf y = [] := List.eq_nil_of_length_eq_zero (by rw [bytesOf_length]; omega)
    rw [if_pos (by rw [Bool.false_or, decide_eq_true_eq]; exact h), bytesOf_extract, hz]
    exact ⟨by simp, Nat.le_refl _⟩
  · rw [if_neg (by rw [Bool.false_or, decide_eq_true_eq]; exact h)]
    have e : (y.extract 1 y.size).size = y.size - 1 := by rw [ByteArray.size_extract]; omega
    refine ⟨?_, by show (y.extract 1 y.size).size ≤ _; omega⟩
    show bytesOf (y.extract (y.size - (y.extract 1 y.size).size) y.size) = _
    rw [e, show y.size - (y.size - 1) = 1 by omega, bytesOf_extract, ← bytesOf_length, List.take_length]
/-- records in memory of the call's own -/
def Recs (w : World) (n : Nat) (l : List Jo.Rc) (stop : Nat) (e : Ending) (w' : World) : Prop :=
  ∃ A c, e = .returned (.tuple #[.slice A l.length c, .int .i64 (stop : Int)]) ∧ w'.ownsRow w.heap.size 49 3 (.slice A l.length c) l.length (recCells n l) ∧ Fr (fun _ => False) w w'

set_option maxRecDepth 10000 in
set_option maxHeartbeats 4000000 in
theorem recs_any (s : ByteArray) (hs : s.size ≤ 5000) (a n : Nat) (ha : a ≤ s.size) (hn : n ≤ 4294967296) (w : World) :
    Calls Tryz.prog 47 #[.string s, .int .i64 (a : Int), .int .i64 (n : Int)] w (Recs w n (Jo.recs (bytesOf s) (bytesOf s).length a).1 (Jo.recs (bytesOf s) (bytesOf s).length a).2) := by
  have hbl := bytesOf_length s
  obtain ⟨R, hR⟩ : ∃ R, R = Jo.recs (bytesOf s) (bytesOf s).length a := ⟨_, rfl⟩
  rw [← hR]
  have KW := fun (q : Nat) (W : World) => whole_any s (by omega) q W
  obtain ⟨i0, hi0, hz0, hz1, hz2⟩ := info_parts Tryz.infoRec
  go_enter Tryz.func47, Tryz.ntmps47
  go_wp2_with fail
  go_loopw [1, 8] (fun at' list wr => ∃ (q f : Nat) (l : List Jo.Rc) (A : Option Addr) (c : Nat), at' = .int .i64 (q : Int) ∧ list = .slice A l.length c ∧ wr.ownsRow w.heap.size 49 3 (.slice A l.length c) l.length (recCells n l) ∧ Fr (fun _ => False) w wr ∧ R = (l ++ (Jo.recs (bytesOf s) f q).1, (Jo.recs (bytesOf s) f q).2) ∧ s.size ≤ q + f ∧ q ≤ s.size ∧ l.length ≤ q) (fun at' _ _ => s.size - (intOf at').toNat)
  case atStart => exact ⟨a, (bytesOf s).length, [], none, 0, rfl, rfl, World.ownsRow_nil _ _ _ _, Fr.refl _ _, hR, by omega, ha, Nat.zero_le _⟩
  case round =>
    obtain ⟨q, f, l, A, c, rfl, rfl, hown, hF, hq, hsz, hqs, hll⟩ := hrel
    have HO := Lib.hid hown
    have HF := Lib.hid hF
    have HQ := Lib.hid hq
    clear hown hF hq hR
    cases hw : Jo.whole (bytesOf s) q with
    | none =>
      have hr : Jo.recs (bytesOf s) f q = ([], q) := by
        rcases f with _ | f
        · rfl
        · unfold Jo.recs; rw [hw]
      have K := KW q wr
      rw [hw] at K
      simp only [wholeV] at K
      have HR : Hid (R = (l, q)) := Lib.hid (by rw [HQ.out, hr, List.append_nil])
      clear KW hw hr
      go_wp2_with (go_at_call 41; refine K.mono ?_; rintro e w1 ⟨rfl, F1⟩)
      go_ret2
      rw [HR.out]
      exact ⟨A, c, rfl, wide_fr HO.out F1 fun _ _ => id, HF.out.trans F1 fun _ _ h => h⟩
    | some be =>
      obtain ⟨b, e0⟩ := be
      obtain ⟨g1, g2, g3, _⟩ := whole_some hw
      rw [hbl] at g2
      obtain ⟨f', rfl⟩ : ∃ f', f = f' + 1 := ⟨f - 1, by omega⟩
      have K := KW q wr
      rw [hw] at K
      obtain ⟨y, hy⟩ : ∃ y : ByteArray, y = ⟨b.toArray⟩ := ⟨_, rfl⟩
      have hyb : bytesOf y = b := by rw [hy]; rfl
      have hyz : y.size ≤ 1024 := by rw [← bytesOf_length, hyb]; exact g3
      have hrec : Jo.recs (bytesOf s) (f' + 1) q = if (Jo.kindOf b = 1 ∨ Jo.kindOf b = 2) ∧ (b.drop 1).length ≤ 1000 then (⟨Jo.kindOf b, b.drop 1⟩ :: (Jo.recs (bytesOf s) f' e0).1, (Jo.recs (bytesOf s) f' e0).2) else ([], q) := by
        rw [Jo.recs, hw]
      simp only [wholeV] at K
      rw [← hy] at K
      have kb := byte_kind y
      obtain ⟨lb1, lb2⟩ := left_is y
      rw [hyb] at kb lb1
      have KR := fun W => Pa.read_any y W
      have KB := fun {W : World} {rb : Nat} (h : Pa.Re W rb y false) => Pa.rbyte_any (r := ⟨y, false⟩) h
      rw [kb] at KB
      have KL := fun {W : World} {rb : Nat} (h : Pa.Re W rb ((⟨y, false⟩ : Pa.Rs).aft 1).s ((⟨y, false⟩ : Pa.Rs).aft 1).bad) => rest_any (r := (⟨y, false⟩ : Pa.Rs).aft 1) h y lb2 (by omega)
      obtain ⟨z, hz⟩ : ∃ z, z = y.extract (y.size - ((⟨y, false⟩ : Pa.Rs).aft 1).s.size) y.size := ⟨_, rfl⟩
      rw [← hz] at KL lb1
      have hzl : z.size = (b.drop 1).length := by rw [← bytesOf_length, lb1]
      have hzb : z = ⟨(b.drop 1).toArray⟩ := bytes_eq lb1
      have hzz : z.size ≤ 1024 := by rw [hzl, List.length_drop]; omega
      have HZB := Lib.hid hzb
      generalize ((⟨y, false⟩ : Pa.Rs).aft 1) = r1 at *
      generalize b.drop 1 = d at *
      generalize Jo.kindOf b = k at *
      clear KW hw hy hyb kb lb1 lb2 hz hzb g3 hyz hbl
      have hcase : ((k = 1 ∨ k = 2) ∧ z.size ≤ 1000) ∨ ((k = 1 ∨ k = 2) ∧ 1000 < z.size) ∨ (k ≠ 1 ∧ k ≠ 2) := by omega
      have HZL := Lib.hid hzl
      have HREC := Lib.hid hrec
      clear hzl hrec
      go_wp2_with (go_at_call 41; refine K.mono ?_; rintro e w1 ⟨rfl, F1⟩)
      clear K
      refine (KR _).mono ?_
      rintro e w2 ⟨rfl, hw2⟩
      obtain ⟨rb, hrb⟩ : ∃ rb, rb = w1.heap.size := ⟨_, rfl⟩
      rw [← hrb]
      have i2 : Pa.Re w2 rb y false := by rw [hw2, hrb]; exact Is.new _ _ _
      have f2 : Fr (fun _ => False) wr w2 := by rw [hw2]; exact F1.alloc _
      have hrw : wr.heap.size ≤ rb := by rw [hrb]; exact F1.size
      have KB2 := KB i2
      have HF2 := Lib.hid f2
      clear hw2 hrb KB KR F1 f2 i2
      go_wp2_with fail
      refine KB2.mono ?_
      rintro e w3 ⟨rfl, i3, f3⟩
      have KL2 := KL i3
      have HF3 : Hid (Fr (fun j => j = rb) wr w3) := Lib.hid ((HF2.out.mono fun _ _ h => h.elim).trans f3 fun _ _ h => h)
      clear KB2 KL HF2 i3 f3
      go_wp2_with fail
      refine KL2.mono ?_
      rintro e w' ⟨rfl, rfl⟩
      have hlt := World.ownsRow.lt HO.out
      have HO3 := Lib.hid (wide_fr HO.out HF3.out fun j hj e => by have := (hlt j hj).2; omega)
      have HFw := Lib.hid (HF.out.trans HF3.out fun j hj e => by have h2 := HF.out.size; omega)
      clear KL2 HO HF HF3 hlt hrw
      rcases hcase with ⟨hk, hz1'⟩ | ⟨hk, hz1'⟩ | ⟨hk1, hk2⟩
      · have hr : Jo.recs (bytesOf s) (f' + 1) q = (⟨k, d⟩ :: (Jo.recs (bytesOf s) f' e0).1, (Jo.recs (bytesOf s) f' e0).2) := by rw [HREC.out, if_pos ⟨hk, by rw [← HZL.out]; exact hz1'⟩]
        have HR : Hid (R = ((l ++ [⟨k, d⟩]) ++ (Jo.recs (bytesOf s) f' e0).1, (Jo.recs (bytesOf s) f' e0).2)) := Lib.hid (by rw [HQ.out, hr, List.append_assoc]; rfl)
        have d1 : decide ((1000 : Int) < (z.size : Int)) = false := by simp; omega
        have HNL : Hid ((n : Int) + (l.length : Int) = ((n + l.length : Nat) : Int)) := Lib.hid (by omega)
        have HL1 : Hid (l.length + 1 ≤ maxLen) := Lib.hid (by unfold maxLen; omega)
        have HL2 : Hid ((l.length + 1) * 32 ≤ 140737488355328) := Lib.hid (by omega)
        have HL3 := Lib.hid (recCells_length l n)
        clear hr HREC HQ
        have key : ∀ kk : Int, k = kk → (kk = 1 ∨ kk = 2) → True := fun _ _ _ => trivial
        clear key
        have q1 : (k != 1) = true ∧ (k != 2) = false ∨ (k != 1) = false := by
          rcases hk with rfl | rfl
          · exact .inr rfl
          · exact .inl ⟨rfl, rfl⟩
        clear hk
        rcases q1 with ⟨q1, q2⟩ | q1
        all_goals
          go_wp2_with (at_builtin; refine wpList_append_wide _ rfl (.tmp 46) (.tmp 54) 37 rfl w.heap.size 49 i0 _ 3 32 Tryz.underlying37 hi0 hz0 hz1 hz2 rfl (by decide) (.slice A l.length c) l.length (recCells n l) rfl (HO3.out.alloc _) (some ⟨w3.heap.size, 0, none⟩) 1 1 [.int .i64 ((n : Int) + (l.length : Int)), .int .i64 k, .string z] rfl rfl (lit_rd w3 _ _) (by simp [Value.oneCell']) HL1.out HL2.out (Nat.le_trans HFw.out.size (by simp)) ?_; intro v5 w5 hown5 hg5 hat5; obtain ⟨A5, c5, rfl, _, _, _, _⟩ := wide_form hown5; have HO5 := Lib.hid hown5; have HG5 := Lib.hid hg5; clear hown5 hg5 hat5)
          go_wp2_with fail
          go_roundw
          case rel =>
            refine ⟨e0, f', l ++ [⟨k, d⟩], A5, c5, rfl, by rw [List.length_append]; rfl, ?_, (HFw.out.alloc _).grown HG5.out fun j hj => .inr (World.ownsRow.lt HO3.out j hj).1, HR.out, by omega, g2, by rw [List.length_append, List.length_singleton]; omega⟩
            rw [recCells_append, List.length_append, List.length_singleton]
            have h5 := HO5.out
            rw [HNL.out, HZB.out] at h5
            exact h5
          case measure => simp [intOf]; omega
      · have hr : Jo.recs (bytesOf s) (f' + 1) q = ([], q) := by rw [HREC.out, if_neg fun e => by have := e.2; rw [← HZL.out] at this; omega]
        have HR : Hid (R = (l, q)) := Lib.hid (by rw [HQ.out, hr, List.append_nil])
        have d1 : decide ((1000 : Int) < (z.size : Int)) = true := by simp; omega
        have q1 : (k != 1) = true ∧ (k != 2) = false ∨ (k != 1) = false := by
          rcases hk with rfl | rfl
          · exact .inr rfl
          · exact .inl ⟨rfl, rfl⟩
        clear hk hr HREC HQ
        rcases q1 with ⟨q1, q2⟩ | q1
        all_goals
          go_wp2_with fail
          go_ret2
          rw [HR.out]
          exact ⟨A, c, rfl, HO3.out, HFw.out⟩
      · have hr : Jo.recs (bytesOf s) (f' + 1) q = ([], q) := by rw [HREC.out, if_neg fun e => by have := e.1; omega]
        have HR : Hid (R = (l, q)) := Lib.hid (by rw [HQ.out, hr, List.append_nil])
        have q1 : (k != 1) = true := by simpa using hk1
        have q2 : (k != 2) = true := by simpa using hk2
        clear hk1 hk2 hr HREC HQ
        go_wp2_with fail
        go_ret2
        rw [HR.out]
        exact ⟨A, c, rfl, HO3.out, HFw.out⟩
end Go.Proofs.YtdoljggaoidljaaGreat

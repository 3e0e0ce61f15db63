/- strings.Lines: its iterator, whatever the rounds do. -/
import Derived.Test.YtkkohdmneognlaaGreatDoorMal
import Derived.RangeFuncNested
import Derived.RangeFuncBound
import Derived.RangeFuncCalls
import Derived.RangeFuncLeaves
import Derived.Shelf.Abstract
import Derived.Shelf.RegionOpen
import Derived.WalkKit
import Derived.OwnWalkIn
import Derived.TacticsInMore
import Derived.LoopNIn
import Derived.LoopIn
import Derived.Lib.IndexLaws
import Derived.Shelf.Unicode.DecodeLastEight
import Derived.Lib.TrimU
namespace Go.Proofs.YtkkohdmneognlaaGreatDoor
open Go.RowKit Go.Shelf
attribute [local go_sem] Oper.semAt_some

/-- the lines of a text, each with its end -/
def linesN : Nat → List UInt8 → List (List UInt8)
  | 0, _ => []
  | n + 1, s => if s = [] then [] else if Lib.indexByte s 10 = -1 then [s] else s.take ((Lib.indexByte s 10).toNat + 1) :: linesN n (s.drop ((Lib.indexByte s 10).toNat + 1))
def encT (x : List UInt8) : Array Value := #[.string ⟨x.toArray⟩]
def linesM (s : List UInt8) : List (List UInt8) := linesN s.length s
theorem linesN_more : ∀ (n m : Nat) (s : List UInt8), s.length ≤ n → s.length ≤ m → linesN n s = linesN m s
  | 0, m, s, h, _ => by
    have e : s = [] := List.eq_nil_of_length_eq_zero (by omega)
    subst e
    cases m with
    | zero => rfl
    | succ m => rw [linesN, linesN, if_pos rfl]
  | n + 1, 0, s, _, h => by
    have e : s = [] := List.eq_nil_of_length_eq_zero (by omega)
    subst e
    rw [linesN, linesN, if_pos rfl]
  | n + 1, m + 1, s, h, h' => by
    rw [linesN, linesN]
    by_cases e : s = []
    · rw [if_pos e, if_pos e]
    · rw [if_neg e, if_neg e]
      have : 0 < s.length := List.length_pos_iff.2 e
      rw [linesN_more n m (s.drop ((Lib.indexByte s 10).toNat + 1)) (by rw [List.length_drop]; omega) (by rw [List.length_drop]; omega)]
theorem linesM_nil : linesM [] = [] := rfl
theorem linesM_one {s : List UInt8} (h : s ≠ []) (hi : Lib.indexByte s 10 = -1) : linesM s = [s] := by
  unfold linesM
  obtain ⟨n, hn⟩ : ∃ n, s.length = n + 1 := ⟨s.length - 1, by have := List.length_pos_iff.2 h; omega⟩
  rw [hn, linesN, if_neg h, if_pos hi]
theorem linesM_cons {s : List UInt8} {i : Nat} (h : s ≠ []) (hi : Lib.indexByte s 10 = i) : linesM s = s.take (i + 1) :: linesM (s.drop (i + 1)) := by
  unfold linesM
  obtain ⟨n, hn⟩ : ∃ n, s.length = n + 1 := ⟨s.length - 1, by have := List.length_pos_iff.2 h; omega⟩
  rw [hn, linesN, if_neg h, if_neg (by rw [hi]; omega), hi, Int.toNat_natCast, ← linesN_more n _ (s.drop (i + 1)) (by rw [List.length_drop]; omega) (Nat.le_refl _)]

theorem drop_head {α : Type} {l : List α} {i : Nat} {x : α} {r : List α} (h : l.drop i = x :: r) : ∃ hi : i < l.length, l[i] = x ∧ l.drop (i + 1) = r := by
  have hi : i < l.length := by
    rcases Nat.lt_or_ge i l.length with k | k
    · exact k
    · rw [List.drop_eq_nil_of_le k] at h; cases h
  rw [List.drop_eq_getElem_cons hi] at h
  injection h with h1 h2
  exact ⟨hi, h1, h2⟩
theorem ext_mk (r : List UInt8) (a b : Nat) : (⟨r.toArray⟩ : ByteArray).extract a b = ⟨((r.take b).drop a).toArray⟩ := by
  apply bytesOf_inj
  rw [bytesOf_extract, bytesOf_mk r, bytesOf_mk]
def boxLen (W : World) (b : Nat) : Nat := match W.cell? ⟨b, 0, none⟩ with
  | some (.string s) => s.size
  | _ => 0
theorem boxLen_at {W : World} {b : Nat} {t : TypeId} {s : ByteArray} (h : Is W b t #[.string s]) : boxLen W b = s.size := by
  unfold boxLen
  rw [h.cell 0]
  rfl

set_option maxRecDepth 100000 in
set_option maxHeartbeats 4000000 in
theorem lines_all (sb : Nat) (s : List UInt8) (w : World) (hs : s.length ≤ 140737488355328) (hb : Is w sb 9 #[.string ⟨s.toArray⟩]) : SeqAll Tryz.prog 110 #[.pointer (some ⟨sb, 0, none⟩)] encT (fun k => k = sb) (fun k => k = sb) (linesM s) w := by
  intro l J W hW hJ hY h0
  refine (callsIn_wide (n := 4)).1 (callsIn_of_wp (n := 4) (F := Fence.wide) Tryz.func110 rfl trivial ?_ rfl)
  simp only [Tryz.ntmps110, List.size_toArray, List.length_cons, List.length_nil, Nat.reduceAdd, Nat.reduceSub, Array.replicate_succ, Array.replicate_zero, List.push_toArray, List.append_toArray, List.nil_append, List.cons_append]
  gi_wp2
  gi_loopw [3, 4] (fun _ _ wr => ∃ (i : Nat) (r : List UInt8), i ≤ (linesM s).length ∧ (linesM s).drop i = linesM r ∧ r.length ≤ s.length ∧ Is wr sb 9 #[.string ⟨r.toArray⟩] ∧ J i wr) (fun _ _ wr => boxLen wr sb)
  case atStart => exact ⟨0, s, Nat.zero_le _, rfl, Nat.le_refl _, hb.fr hW id, h0⟩
  case round =>
    obtain ⟨i, r, hi, hd, hrl, isb, hj⟩ := hrel
    have c0 := isb.cell 0
    have c1 := isb.frozen 0
    by_cases hr : r = []
    · subst hr
      rw [linesM_nil] at hd
      have hil : i = (linesM s).length := by
        have := List.length_drop (i := i) (l := linesM s)
        rw [hd] at this
        simp at this
        omega
      gi_wp2
      go_end0
      rw [← hil]
      exact ⟨⟨_, rfl⟩, hj⟩
    · have hpos : 0 < r.length := List.length_pos_iff.2 hr
      have hz : (⟨r.toArray⟩ : ByteArray).size = r.length := by simp [ByteArray.size]
      have KI : ∀ W, Calls Tryz.prog 111 #[.string ⟨r.toArray⟩, .int .u8 10] W fun e w' => e = .returned (.int .i64 (Lib.indexByte r 10)) ∧ w' = W := fun W => Tryz.strings_IndexByte ⟨r.toArray⟩ 10 W
      have hge := Lib.indexByte_ge r 10
      by_cases hx : Lib.indexByte r 10 = -1
      · rw [linesM_one hr hx] at hd
        rw [hx] at KI
        clear hge hx
        obtain ⟨hil, hxi, hd2⟩ := drop_head hd
        have hj1 := hJ i _ (wr.setCell ⟨sb, 0, none⟩ (.string ⟨#[]⟩)) hj ((Fr.refl (fun k => k = sb) wr).setCell (.inl rfl) _)
        have isb1 := isb.set 0 (.string ⟨#[]⟩)
        have hY1 := hY i hil _ hj1
        rw [hxi] at hY1
        obtain ⟨fn, tmps, assign, body, hy, hR⟩ := hY1
        dsimp only [encT] at hy
        gi_wp2
        refine ⟨trivial, callsIn_wide.2 ((KI _).mono ?_)⟩
        rintro _ _ ⟨rfl, rfl⟩
        clear KI
        gi_wp2
        refine hR.mono ?_
        rintro e W2 ⟨rfl, hj2, hk2⟩
        have isb2 := hk2.is_ isb1 rfl
        gi_wp2
        go_roundw
        case rel => exact ⟨i + 1, [], by omega, by rw [linesM_nil]; exact hd2, Nat.zero_le _, isb2, hj2⟩
        case measure => rw [boxLen_at isb2, boxLen_at isb]; simp [ByteArray.size]; omega
      · obtain ⟨k, hk⟩ : ∃ k : Nat, Lib.indexByte r 10 = k := ⟨(Lib.indexByte r 10).toNat, by omega⟩
        rw [linesM_cons hr hk] at hd
        have hkl : k < r.length := (List.getElem?_eq_some_iff.1 (Lib.indexByte_some hk).1).1
        rw [hk] at KI
        clear hge hx hk
        obtain ⟨hil, hxi, hd2⟩ := drop_head hd
        have e1 : (⟨(r.take (k + 1)).toArray⟩ : ByteArray) = (⟨r.toArray⟩ : ByteArray).extract 0 (k + 1) := by rw [ext_mk]; rfl
        have e2 : (⟨r.toArray⟩ : ByteArray).extract (k + 1) r.length = ⟨(r.drop (k + 1)).toArray⟩ := by rw [ext_mk, List.take_length]
        have hj1 := hJ i _ (wr.setCell ⟨sb, 0, none⟩ (.string ((⟨r.toArray⟩ : ByteArray).extract (k + 1) r.length))).drew hj ((Fr.refl (fun k => k = sb) wr).setCell (p := ⟨sb, 0, none⟩) (.inl rfl) _).drew
        have isb1 : Is (wr.setCell ⟨sb, 0, none⟩ (.string ((⟨r.toArray⟩ : ByteArray).extract (k + 1) r.length))).drew sb 9 #[.string ⟨(r.drop (k + 1)).toArray⟩] := by
          rw [← e2]
          exact (isb.set 0 _).drew
        have hY1 := hY i hil _ hj1
        rw [hxi] at hY1
        obtain ⟨fn, tmps, assign, body, hy, hR⟩ := hY1
        dsimp only [encT] at hy
        rw [e1] at hy
        clear e1 e2
        gi_wp2
        refine ⟨trivial, callsIn_wide.2 ((KI _).mono ?_)⟩
        rintro _ _ ⟨rfl, rfl⟩
        clear KI
        gi_wp2
        refine (wpIn_wide (n := 4)).2 ?_
        go_region
        gi_wp2
        refine hR.mono ?_
        rintro e W2 ⟨rfl, hj2, hk2⟩
        have isb2 := hk2.is_ isb1 rfl
        gi_wp2
        go_roundw
        case rel => exact ⟨i + 1, r.drop (k + 1), by omega, hd2, by rw [List.length_drop]; omega, isb2, hj2⟩
        case measure => rw [boxLen_at isb2, boxLen_at isb]; simp [ByteArray.size]; omega
end Go.Proofs.YtkkohdmneognlaaGreatDoor
/- strings.FieldsSeq: its iterator, whatever the rounds do but with the tables and the text's box. -/
namespace Go.Proofs.YtkkohdmneognlaaGreatDoor
open Go.RowKit Go.Shelf
attribute [local go_sem] Oper.semAt_some

/-- the tables that FieldsSeq reads -/
structure Tabs (w : World) : Prop where
  utf : Lib.Utf8Tabs 6 7 w
  white : Lib.WhiteTab 2 w
  asc : ∀ c : Nat, c < 256 → w.cell? ⟨0, c, none⟩ = some (.int .u8 (if c = 9 ∨ c = 10 ∨ c = 11 ∨ c = 12 ∨ c = 13 ∨ c = 32 then 1 else 0))
theorem cell_lt {w : World} {a : Addr} {v : Value} (h : w.cell? a = some v) : a.block < w.heap.size := World.block_lt_of_cell? w a h
theorem Tabs.below {w w1 : World} (h : Tabs w) (f : Below w.heap.size w w1) : Tabs w1 :=
  ⟨⟨fun c hc => (f.cell (cell_lt (h.utf.1 c hc))).trans (h.utf.1 c hc), fun i hi => ⟨(f.cell (cell_lt (h.utf.2 i hi).1)).trans (h.utf.2 i hi).1, (f.cell (cell_lt (h.utf.2 i hi).2)).trans (h.utf.2 i hi).2⟩⟩,
    WhiteTab_below h.white f, fun c hc => (f.cell (cell_lt (h.asc c hc))).trans (h.asc c hc)⟩
/-- blocks ahead of q are as they are in w0 -/
def Old (q : Nat) (w0 w : World) : Prop := w0.heap.size ≤ w.heap.size ∧ ∀ k, k < q → w.heap[k]? = w0.heap[k]?
theorem Old.tabs {w0 w : World} (h : Old w0.heap.size w0 w) (ht : Tabs w0) : Tabs w := by
  have f : Below w0.heap.size w0 { w0 with heap := w.heap } := ⟨rfl, rfl, rfl, h.1, fun k hk => h.2 k hk⟩
  have k := Tabs.below (w1 := { w0 with heap := w.heap }) ht f
  exact ⟨k.utf, k.white, k.asc⟩

def ascB (b : UInt8) : Bool := decide (b.toNat = 9 ∨ b.toNat = 10 ∨ b.toNat = 11 ∨ b.toNat = 12 ∨ b.toNat = 13 ∨ b.toNat = 32)
/-- is there white space, how many bytes take it -/
def spc (r : List UInt8) : Bool × Nat := match r with
  | [] => (false, 1)
  | b :: _ => if b.toNat < 128 then (ascB b, 1) else (Lib.isSpaceZ ((Lib.decodeGo ⟨r.toArray⟩).1 : Nat), (Lib.decodeGo ⟨r.toArray⟩).2)
/-- the words from place i on; st: where the one that is under way begins -/
def fieldsN (s : List UInt8) : Nat → Int → Nat → List (List UInt8)
  | 0, st, _ => if 0 ≤ st then [s.drop st.toNat] else []
  | n + 1, st, i => if s.length ≤ i then (if 0 ≤ st then [s.drop st.toNat] else []) else
      if (spc (s.drop i)).1 = true then (if 0 ≤ st then [(s.take i).drop st.toNat] else []) ++ fieldsN s n (-1) (i + (spc (s.drop i)).2)
      else fieldsN s n (if st < 0 then i else st) (i + (spc (s.drop i)).2)
def fieldsM (s : List UInt8) : List (List UInt8) := fieldsN s s.length (-1) 0
theorem decode_le (t : ByteArray) : (Lib.decodeGo t).1 ≤ 1114111 := by
  unfold Lib.decodeGo
  split
  · decide
  · rw [Lib.decode_at]
    unfold Lib.decodeN
    repeat' split
    all_goals simp only []
    all_goals omega
theorem spc_pos {r : List UInt8} (h : r ≠ []) : 1 ≤ (spc r).2 ∧ (spc r).2 ≤ 4 := by
  cases r with
  | nil => exact (h rfl).elim
  | cons b r =>
    unfold spc
    dsimp only
    split
    · exact ⟨Nat.le_refl _, by omega⟩
    · refine ⟨?_, Lib.decodeGo_le4 _⟩
      show 1 ≤ (Lib.decodeGo ⟨(b :: r).toArray⟩).2
      unfold Lib.decodeGo
      rw [if_neg (by simp [ByteArray.size])]
      exact Lib.width_pos _ _

theorem fieldsN_more (s : List UInt8) : ∀ (n m : Nat) (st : Int) (i : Nat), s.length ≤ i + n → s.length ≤ i + m → fieldsN s n st i = fieldsN s m st i
  | 0, 0, _, _, _, _ => rfl
  | 0, m + 1, st, i, h, _ => by rw [fieldsN, fieldsN, if_pos (show s.length ≤ i by omega)]
  | n + 1, 0, st, i, _, h => by rw [fieldsN, fieldsN, if_pos (show s.length ≤ i by omega)]
  | n + 1, m + 1, st, i, h, h' => by
    rw [fieldsN, fieldsN]
    by_cases hi : s.length ≤ i
    · rw [if_pos hi, if_pos hi]
    · have hp := (spc_pos (r := s.drop i) (by intro e; have := List.length_drop (i := i) (l := s); rw [e] at this; simp at this; omega)).1
      rw [if_neg hi, if_neg hi, fieldsN_more s n m _ _ (by omega) (by omega), fieldsN_more s n m _ _ (by omega) (by omega)]
def fieldsI (s : List UInt8) (st : Int) (i : Nat) : List (List UInt8) := fieldsN s s.length st i
theorem fieldsI_end {s : List UInt8} {st : Int} {i : Nat} (h : s.length ≤ i) : fieldsI s st i = if 0 ≤ st then [s.drop st.toNat] else [] := by
  unfold fieldsI
  rw [fieldsN_more s s.length 0 st i (by omega) (by omega), fieldsN]
theorem fieldsI_step {s : List UInt8} {st : Int} {i : Nat} (h : i < s.length) : fieldsI s st i = if (spc (s.drop i)).1 = true then (if 0 ≤ st then [(s.take i).drop st.toNat] else []) ++ fieldsI s (-1) (i + (spc (s.drop i)).2) else fieldsI s (if st < 0 then i else st) (i + (spc (s.drop i)).2) := by
  unfold fieldsI
  have hp := (spc_pos (r := s.drop i) (by intro e; have := List.length_drop (i := i) (l := s); rw [e] at this; simp at this; omega)).1
  rw [fieldsN_more s s.length (s.length + 1) st i (by omega) (by omega), fieldsN, if_neg (by omega)]

set_option maxRecDepth 100000 in
set_option maxHeartbeats 8000000 in
theorem fields_all (q sb : Nat) (s : List UInt8) (w0 w : World) (hs : s.length ≤ 4294967280) (h0t : Tabs w0) (hq : w0.heap.size = q) (ho : Old q w0 w) (hb : Is w sb 9 #[.string ⟨s.toArray⟩]) :
    SeqAll Tryz.prog 162 #[.pointer (some ⟨sb, 0, none⟩)] encT (fun _ => False) (fun k => k = sb ∨ k < q) (fieldsM s) w := by
  intro l J W hW hJ hY h0
  refine (callsIn_wide (n := 4)).1 (callsIn_of_wp (n := 4) (F := Fence.wide) Tryz.func162 rfl trivial ?_ rfl)
  simp only [Tryz.ntmps162, List.size_toArray, List.length_cons, List.length_nil, Nat.reduceAdd, Nat.reduceSub, Array.replicate_succ, Array.replicate_zero, List.push_toArray, List.append_toArray, List.nil_append, List.cons_append]
  gi_wp2
  gi_loopw [3, 4] (fun v3 v4 wr => ∃ (j : Nat) (st : Int) (i : Nat), j ≤ (fieldsM s).length ∧ v3 = .int .i64 st ∧ v4 = .int .i64 (i : Nat) ∧ (fieldsM s).drop j = fieldsI s st i ∧ (st = -1 ∨ (0 ≤ st ∧ st < i)) ∧ st < s.length ∧ i ≤ s.length + 4 ∧ Old q w0 wr ∧ Is wr sb 9 #[.string ⟨s.toArray⟩] ∧ J j wr) (fun _ i _ => s.length + 4 - (intOf i).toNat)
  case atStart => exact ⟨0, -1, 0, Nat.zero_le _, rfl, rfl, rfl, .inl rfl, by omega, by omega, ⟨Nat.le_trans ho.1 hW.size, fun k hk => (hW.block k (by have := ho.1; omega) id).trans (ho.2 k hk)⟩, hb.fr hW id, h0⟩
  case round =>
    obtain ⟨j, st, i, hj, rfl, rfl, hd, hst, hsl, hil, ho, isb, hJj⟩ := hrel
    have c0 := isb.cell 0
    have hz : (⟨s.toArray⟩ : ByteArray).size = s.length := by simp [ByteArray.size]
    subst hq
    have hT := ho.tabs h0t
    by_cases hlt : i < s.length
    · have hlti : (i : Int) < (s.length : Int) := by omega
      rw [fieldsI_step hlt] at hd
      obtain ⟨hp1, hp4⟩ := spc_pos (r := s.drop i) (by intro e; have := List.length_drop (i := i) (l := s); rw [e] at this; simp at this; omega)
      have hdc : s.drop i = s[i] :: s.drop (i + 1) := List.drop_eq_getElem_cons hlt
      have hc := hT.asc s[i].toNat (UInt8.toNat_lt _)
      have hgi : ∀ hh, (⟨s.toArray⟩ : ByteArray)[i]'hh = s[i] := fun _ => rfl
      have hbl := UInt8.toNat_lt s[i]
      have hsp : s[i].toNat < 128 → spc (s.drop i) = (ascB s[i], 1) := fun h128 => by rw [hdc]; unfold spc; dsimp only; rw [if_pos h128]
      have hsp2 : ¬ s[i].toNat < 128 → spc (s.drop i) = (Lib.isSpaceZ ((Lib.decodeGo ⟨(s.drop i).toArray⟩).1 : Nat), (Lib.decodeGo ⟨(s.drop i).toArray⟩).2) := fun h128 => by rw [hdc]; unfold spc; dsimp only; rw [if_neg h128]
      clear hdc
      have hb256 : (s[i].toNat : Int) < 256 := by omega
      have hw : wrap32 (s[i].toNat : Int) = (s[i].toNat : Int) := by unfold wrap32; omega
      by_cases h128 : s[i].toNat < 128
      · rw [hsp h128] at hd
        dsimp only at hd
        have i128 : ¬ (128 : Int) ≤ (s[i].toNat : Int) := by omega
        clear hsp hsp2 hp1 hp4
        cases ha : ascB s[i]
        · rw [ha, if_neg (by decide)] at hd
          unfold ascB at ha
          rw [if_neg (of_decide_eq_false ha)] at hc
          clear ha
          rcases hst with hst | ⟨hst0, hst1⟩
          · subst hst
            rw [if_pos (show (-1 : Int) < 0 by decide)] at hd
            gi_wp2
            go_roundw
            case rel => exact ⟨j, (i : Nat), i + 1, hj, rfl, by go_num, hd, .inr ⟨by omega, by omega⟩, by omega, by omega, ho, isb, hJj⟩
            case measure => simp [intOf]; omega
          · obtain ⟨k, rfl⟩ : ∃ k : Nat, st = k := ⟨st.toNat, by omega⟩
            rw [if_neg (show ¬ (k : Int) < 0 by omega)] at hd
            gi_wp2
            go_roundw
            case rel => exact ⟨j, (k : Nat), i + 1, hj, rfl, by go_num, hd, .inr ⟨by omega, by omega⟩, by omega, by omega, ho, isb, hJj⟩
            case measure => simp [intOf]; omega
        · rw [ha, if_pos rfl] at hd
          unfold ascB at ha
          rw [if_pos (of_decide_eq_true ha)] at hc
          clear ha
          rcases hst with hst | ⟨hst0, hst1⟩
          · subst hst
            rw [if_neg (show ¬ (0 : Int) ≤ -1 by decide), List.nil_append] at hd
            gi_wp2
            go_roundw
            case rel => exact ⟨j, -1, i + 1, hj, rfl, by go_num, hd, .inl rfl, by omega, by omega, ho, isb, hJj⟩
            case measure => simp [intOf]; omega
          · obtain ⟨k, rfl⟩ : ∃ k : Nat, st = k := ⟨st.toNat, by omega⟩
            rw [if_pos (show (0 : Int) ≤ (k : Int) by omega), List.singleton_append] at hd
            obtain ⟨hjl, hxj, hd2⟩ := drop_head hd
            have e1 : (⟨((s.take i).drop (k : Int).toNat).toArray⟩ : ByteArray) = (⟨s.toArray⟩ : ByteArray).extract k i := by rw [ext_mk, Int.toNat_natCast]
            have hY1 := hY j hjl _ (hJj)
            rw [hxj] at hY1
            obtain ⟨fn, tmps, assign, body, hy, hR⟩ := hY1
            dsimp only [encT] at hy
            rw [e1] at hy
            clear e1
            have k1 : (0 : Int) ≤ (k : Int) := by omega
            have k2 : (k : Int) ≤ (i : Int) := by omega
            have k3 : (i : Int) ≤ (s.length : Int) := by omega
            gi_wp2
            refine hR.mono ?_
            rintro e W2 ⟨rfl, hj2, hk2⟩
            have isb2 := hk2.is_ isb (.inl rfl)
            have ho2 : Old w0.heap.size w0 W2 := ⟨Nat.le_trans ho.1 hk2.size, fun k hk => (hk2.block k (Nat.lt_of_lt_of_le hk ho.1) (.inr hk)).trans (ho.2 k hk)⟩
            gi_wp2
            go_roundw
            case rel => exact ⟨j + 1, -1, i + 1, hjl, rfl, by go_num, hd2, .inl rfl, by omega, by omega, ho2, isb2, hj2⟩
            case measure => simp [intOf]; omega
      · rw [hsp2 h128] at hd hp1 hp4
        dsimp only at hd hp1 hp4
        have i128 : (128 : Int) ≤ (s[i].toNat : Int) := by omega
        have e2 : (⟨s.toArray⟩ : ByteArray).extract i s.length = ⟨(s.drop i).toArray⟩ := by rw [ext_mk, List.take_length]
        have KD : ∀ W, Tabs W → Calls Tryz.prog 163 #[.string ((⟨s.toArray⟩ : ByteArray).extract i s.length)] W fun e w' => e = .returned (.tuple #[.int .i32 (Lib.decodeGo ⟨(s.drop i).toArray⟩).1, .int .i64 (Lib.decodeGo ⟨(s.drop i).toArray⟩).2]) ∧ Below W.heap.size W w' := fun W hW => by
          rw [e2]
          exact Tryz.utf8_DecodeRuneInString ⟨(s.drop i).toArray⟩ W hW.utf
        have hr := decode_le ⟨(s.drop i).toArray⟩
        clear hsp hsp2 e2
        generalize Lib.decodeGo ⟨(s.drop i).toArray⟩ = dg at *
        obtain ⟨rn, sz⟩ := dg
        dsimp only at *
        have KS : ∀ W, Tabs W → Calls Tryz.prog 164 #[.int .i32 rn] W fun e w' => e = .returned (.bool (Lib.isSpaceZ rn)) ∧ Below W.heap.size W w' := fun W hW => Tryz.unicode_IsSpace_any rn W (by omega) (by omega) hW.white
        have kk1 : (0 : Int) ≤ (i : Int) := by omega
        have kk2 : (i : Int) ≤ (s.length : Int) := by omega
        gi_wp2
        refine ⟨trivial, callsIn_wide.2 ((KD _ hT).mono ?_)⟩
        rintro _ wx ⟨rfl, fx⟩
        have gx : Fr (fun _ => False) wr wx := Fr.ofBelow fx
        have hT := hT.below fx
        have ho : Old w0.heap.size w0 wx := ⟨Nat.le_trans ho.1 fx.size, fun k hk => (gx.block k (Nat.lt_of_lt_of_le hk ho.1) id).trans (ho.2 k hk)⟩
        have hJj := hJ j _ _ hJj gx
        have isb := isb.fr gx id
        have c0 := isb.cell 0
        clear KD gx fx
        gi_wp2
        refine ⟨trivial, callsIn_wide.2 ((KS _ hT).mono ?_)⟩
        rintro _ wy ⟨rfl, fy⟩
        have gy : Fr (fun _ => False) wx wy := Fr.ofBelow fy
        have ho : Old w0.heap.size w0 wy := ⟨Nat.le_trans ho.1 fy.size, fun k hk => (gy.block k (Nat.lt_of_lt_of_le hk ho.1) id).trans (ho.2 k hk)⟩
        have hJj := hJ j _ _ hJj gy
        have isb := isb.fr gy id
        have c0 := isb.cell 0
        clear KS gy fy
        cases ha : Lib.isSpaceZ rn
        · rw [ha, if_neg (by decide)] at hd
          clear ha
          rcases hst with hst | ⟨hst0, hst1⟩
          · subst hst
            rw [if_pos (show (-1 : Int) < 0 by decide)] at hd
            gi_wp2
            go_roundw
            case rel => exact ⟨j, (i : Nat), i + sz, hj, rfl, by go_num, hd, .inr ⟨by omega, by omega⟩, by omega, by omega, ho, isb, hJj⟩
            case measure => simp [intOf]; omega
          · obtain ⟨k, rfl⟩ : ∃ k : Nat, st = k := ⟨st.toNat, by omega⟩
            rw [if_neg (show ¬ (k : Int) < 0 by omega)] at hd
            gi_wp2
            go_roundw
            case rel => exact ⟨j, (k : Nat), i + sz, hj, rfl, by go_num, hd, .inr ⟨by omega, by omega⟩, by omega, by omega, ho, isb, hJj⟩
            case measure => simp [intOf]; omega
        · rw [ha, if_pos rfl] at hd
          clear ha
          rcases hst with hst | ⟨hst0, hst1⟩
          · subst hst
            rw [if_neg (show ¬ (0 : Int) ≤ -1 by decide), List.nil_append] at hd
            gi_wp2
            go_roundw
            case rel => exact ⟨j, -1, i + sz, hj, rfl, by go_num, hd, .inl rfl, by omega, by omega, ho, isb, hJj⟩
            case measure => simp [intOf]; omega
          · obtain ⟨k, rfl⟩ : ∃ k : Nat, st = k := ⟨st.toNat, by omega⟩
            rw [if_pos (show (0 : Int) ≤ (k : Int) by omega), List.singleton_append] at hd
            obtain ⟨hjl, hxj, hd2⟩ := drop_head hd
            have e1 : (⟨((s.take i).drop (k : Int).toNat).toArray⟩ : ByteArray) = (⟨s.toArray⟩ : ByteArray).extract k i := by rw [ext_mk, Int.toNat_natCast]
            have hY1 := hY j hjl _ (hJj)
            rw [hxj] at hY1
            obtain ⟨fn, tmps, assign, body, hy, hR⟩ := hY1
            dsimp only [encT] at hy
            rw [e1] at hy
            clear e1
            have k1 : (0 : Int) ≤ (k : Int) := by omega
            have k2 : (k : Int) ≤ (i : Int) := by omega
            have k3 : (i : Int) ≤ (s.length : Int) := by omega
            gi_wp2
            refine hR.mono ?_
            rintro e W2 ⟨rfl, hj2, hk2⟩
            have isb2 := hk2.is_ isb (.inl rfl)
            have ho2 : Old w0.heap.size w0 W2 := ⟨Nat.le_trans ho.1 hk2.size, fun k hk => (hk2.block k (Nat.lt_of_lt_of_le hk ho.1) (.inr hk)).trans (ho.2 k hk)⟩
            gi_wp2
            go_roundw
            case rel => exact ⟨j + 1, -1, i + sz, hjl, rfl, by go_num, hd2, .inl rfl, by omega, by omega, ho2, isb2, hj2⟩
            case measure => simp [intOf]; omega
    · rw [fieldsI_end (by omega)] at hd
      have hlti : ¬ (i : Int) < (s.length : Int) := by omega
      rcases hst with hst | ⟨hst0, hst1⟩
      · subst hst
        rw [if_neg (by decide)] at hd
        have hjl : j = (fieldsM s).length := by
          have := List.length_drop (i := j) (l := fieldsM s)
          rw [hd] at this
          simp at this
          omega
        gi_wp2
        go_end0
        rw [← hjl]
        exact ⟨⟨_, rfl⟩, hJj⟩
      · rw [if_pos hst0] at hd
        obtain ⟨k, rfl⟩ : ∃ k : Nat, st = k := ⟨st.toNat, by omega⟩
        obtain ⟨hjl, hxj, hd2⟩ := drop_head hd
        have e1 : (⟨((s.drop (k : Int).toNat)).toArray⟩ : ByteArray) = (⟨s.toArray⟩ : ByteArray).extract k s.length := by rw [ext_mk, List.take_length, Int.toNat_natCast]
        have hY1 := hY j hjl _ hJj
        rw [hxj] at hY1
        obtain ⟨fn, tmps, assign, body, hy, hR⟩ := hY1
        dsimp only [encT] at hy
        rw [e1] at hy
        clear e1
        have hjl2 : j + 1 = (fieldsM s).length := by
          have := List.length_drop (i := j + 1) (l := fieldsM s)
          rw [hd2] at this
          simp at this
          omega
        gi_wp2
        refine hR.mono ?_
        rintro e W2 ⟨rfl, hj2, hk2⟩
        gi_wp2
        go_end0
        rw [← hjl2]
        exact ⟨⟨_, rfl⟩, hj2⟩
end Go.Proofs.YtkkohdmneognlaaGreatDoor
/- strconv.Atoi as one contract; the makers of FieldsSeq's and Lines' iterators; numbers. -/
namespace Go.Proofs.YtkkohdmneognlaaGreatDoor
open Go.RowKit Go.Shelf
attribute [local go_sem] Oper.semAt_some

def numOf (x : List UInt8) : Int := match Lib.atoiAll x with
  | .ok v => v
  | .range => Lib.atoiSat x
  | _ => 0
/-- the two errors' variables -/
structure Errs (w : World) : Prop where
  syn : ∃ tp p, w.cell? ⟨3, 0, none⟩ = some (.iface tp p)
  ran : ∃ tp p, w.cell? ⟨4, 0, none⟩ = some (.iface tp p)
theorem Old.errs {w0 w : World} (h : Old w0.heap.size w0 w) (e : Errs w0) : Errs w := by
  obtain ⟨⟨t1, p1, h1⟩, ⟨t2, p2, h2⟩⟩ := e
  exact ⟨⟨t1, p1, (World.cell?_of_block (h.2 3 (cell_lt h1))).trans h1⟩, ⟨t2, p2, (World.cell?_of_block (h.2 4 (cell_lt h2))).trans h2⟩⟩
theorem Old.fr {q : Nat} {w0 w w1 : World} (h : Old q w0 w) (f : Fr (fun _ => False) w w1) (hq : q ≤ w.heap.size) : Old q w0 w1 :=
  ⟨Nat.le_trans h.1 f.size, fun k hk => (f.block k (by omega) id).trans (h.2 k hk)⟩
theorem atoi_any (x : List UInt8) (W : World) (hx : x.length ≤ 281474976710656) (he : Errs W) :
    Calls Tryz.prog 115 #[.string ⟨x.toArray⟩] W fun e w' => ∃ ev, e = .returned (.tuple #[.int .i64 (numOf x), ev]) ∧ Fr (fun _ => False) W w' := by
  have hz : (⟨x.toArray⟩ : ByteArray).size = x.length := by simp [ByteArray.size]
  unfold numOf
  rcases ha : Lib.atoiAll x with v | _ | _
  · refine (Tryz.strconv_Atoi_ok ⟨x.toArray⟩ (by omega) v ha W).mono ?_
    rintro e w' ⟨rfl, rfl | ⟨t, rfl⟩⟩
    · exact ⟨_, rfl, Fr.refl _ _⟩
    · exact ⟨_, rfl, Fr.ofBelow (Lib.below_freeze ((Below.refl W.heap.size W).drew.alloc (Nat.le_refl _) _) (p := ⟨W.heap.size, _, none⟩) (Nat.le_refl _) 1)⟩
  · obtain ⟨tp, p, hv⟩ := he.syn
    have hno : (∀ v, Lib.atoiAll x ≠ .ok v) ∧ Lib.atoiAll x ≠ .range := by rw [ha]; exact ⟨fun v e => (by cases e), fun e => (by cases e)⟩
    refine (Tryz.strconv_Atoi_no ⟨x.toArray⟩ (by omega) hno _ W hv (.inr ⟨tp, p, rfl⟩)).mono ?_
    rintro e w' ⟨N, rfl, _, _, hb⟩
    exact ⟨_, rfl, Fr.ofBelow hb⟩
  · obtain ⟨tp, p, hv⟩ := he.ran
    refine (Tryz.strconv_Atoi_range ⟨x.toArray⟩ (by omega) ha _ W hv (.inr ⟨tp, p, rfl⟩)).mono ?_
    rintro e w' ⟨N, rfl, _, _, hb⟩
    exact ⟨_, rfl, Fr.ofBelow hb⟩
theorem fseq_any (s : ByteArray) (w : World) : Calls Tryz.prog 144 #[.string s] w fun e w' => e = .returned (.func (.func 162) #[] #[.pointer (some ⟨w.heap.size, 0, none⟩)]) ∧ Is w' w.heap.size 9 #[.string s] ∧ Fr (fun _ => False) w w' ∧ w'.heap.size = w.heap.size + 1 := by
  go_enter Tryz.func144, Tryz.ntmps144
  go_wp2_with fail
  go_ret
  exact ⟨rfl, Is.new w _ _, (Fr.refl _ _).alloc _, by simp⟩
theorem lseq_any (s : ByteArray) (w : World) : Calls Tryz.prog 71 #[.string s] w fun e w' => e = .returned (.func (.func 110) #[] #[.pointer (some ⟨w.heap.size, 0, none⟩)]) ∧ Is w' w.heap.size 9 #[.string s] ∧ Fr (fun _ => False) w w' ∧ w'.heap.size = w.heap.size + 1 := by
  go_enter Tryz.func71, Tryz.ntmps71
  go_wp2_with fail
  go_ret
  exact ⟨rfl, Is.new w _ _, (Fr.refl _ _).alloc _, by simp⟩

theorem fieldsN_len (s : List UInt8) : ∀ (n : Nat) (st : Int) (i : Nat), ∀ x ∈ fieldsN s n st i, x.length ≤ s.length
  | 0, st, i, x, hx => by
    rw [fieldsN] at hx
    split at hx
    · rw [List.mem_singleton.1 hx, List.length_drop]; omega
    · simp at hx
  | n + 1, st, i, x, hx => by
    rw [fieldsN] at hx
    split at hx
    · split at hx
      · rw [List.mem_singleton.1 hx, List.length_drop]; omega
      · simp at hx
    · split at hx
      · rcases List.mem_append.1 hx with hx | hx
        · split at hx
          · rw [List.mem_singleton.1 hx, List.length_drop, List.length_take]; omega
          · simp at hx
        · exact fieldsN_len s n _ _ x hx
      · exact fieldsN_len s n _ _ x hx
theorem fieldsN_cnt (s : List UInt8) : ∀ (n : Nat) (st : Int) (i : Nat), (fieldsN s n st i).length ≤ n + 1
  | 0, st, i => by
    rw [fieldsN]
    split <;> simp
  | n + 1, st, i => by
    rw [fieldsN]
    split
    · split <;> simp
    · split
      · have := fieldsN_cnt s n (-1) (i + (spc (s.drop i)).2)
        rw [List.length_append]
        split <;> simp <;> omega
      · have := fieldsN_cnt s n (if st < 0 then i else st) (i + (spc (s.drop i)).2)
        omega

theorem wpListIn_append_wide {F : Fence} {m0 : Nat} {P : Program} (w : World) {ops : Array Oper} {rest : List Oper} {o : Oper} {a : Act} {Q : Exit → Act → World → Prop} (hgd : o.guard = none) (s x : Operand) (t : TypeId)
    (ho : o.op = .call { callee := .builtin .append, args := #[s, x], argTypes := #[t, t] })
    (base : Nat) (e : TypeId) (i : TypeInfo) (z : Value) (size bytes : Nat) (ht : P.underlying t = some (.slice e)) (hi : P.info? e = some i) (hz : i.zero = some z)
    (hsize : i.size = size) (hby : i.bytes = bytes) (hzs : z.cells.size = size) (hs0 : 0 < size) (v : Value) (n : Nat) (xs : List Value) (hs : a.eval s = v) (hown : w.ownsRow base e size v n xs)
    (A : Option Addr) (c m : Nat) (news : List Value) (hm : news.length = m * size) (hx : a.eval x = .slice A m c) (hr : Rd w A news) (h1 : ∀ u ∈ news, u.oneCell' = true) (h63 : n + m ≤ maxLen) (hbytes : (n + m) * bytes ≤ 140737488355328) (hbase : base ≤ w.heap.size)
    (h : ∀ v' w', w'.ownsRow base e size v' (n + m) (xs ++ news) → w.grownBy w' v.ownBlock → (v'.ownBlock = v.ownBlock ∨ v'.ownBlock = some w.heap.size) → wpListIn F m0 P ops Q rest (a.put o.dst v') w') : wpListIn F m0 P ops Q (o :: rest) a w := by
  refine wpListIn_plain hgd fun K hK => ?_
  obtain ⟨v', w', hrun, r1, r2, r3⟩ := run_append_wide (P := P) w base t o.type e i z size bytes ht hi hz hsize hby hzs hs0 v n xs hown A c m news hm hr h1 h63 hbytes hbase
  unfold Oper.wpIn
  refine ⟨?_, ?_⟩
  · simp [Oper.about, ho, resolve, Target.leads, Sem.run_pure]
  · rw [Oper.semAt_plain F _ _ (by rw [ho]; intro c hc'; cases hc')]
    simp [execOp, ho, resolve, invoke, builtin, hs, hx, hrun, Result.andThen]
    exact hK _ _ (h v' w' r1 r2 r3)

set_option maxRecDepth 100000 in
set_option maxHeartbeats 8000000 in
theorem numbers_any (s : List UInt8) (w : World) (hs : s.length ≤ 268435456) (hT : Tabs w) (hE : Errs w) : Calls Tryz.prog 114 #[.string ⟨s.toArray⟩] w (Nums w ((fieldsM s).map numOf)) := by
  have hlen := fieldsN_len s s.length (-1) 0
  have hcnt := fieldsN_cnt s s.length (-1) 0
  obtain ⟨i0, hi0, hz0, hz1, hz2⟩ := info_parts Tryz.infoI
  refine calls_marks Tryz.func114 rfl ?_
  simp only [Tryz.ntmps114, List.size_toArray, List.length_cons, List.length_nil, Nat.reduceAdd, Nat.reduceSub, Array.replicate_succ, Array.replicate_zero, List.push_toArray, List.append_toArray, List.nil_append, List.cons_append]
  go_wp2_with fail
  refine (fseq_any _ _).mono ?_
  rintro _ w1 ⟨rfl, isb, f1, hz⟩
  have isl : Is w1 w.heap.size 25 #[.slice none 0 0] := (Is.new w _ _).fr f1 id
  have F1 := fr_nil ((Fr.refl (fun _ => False) w).alloc _) f1
  rw [World.size_alloc] at isb hz
  go_wp2_with fail
  have ho : Old w.heap.size w w1 := ⟨F1.size, fun k hk => F1.block k hk id⟩
  refine wp_range_all (gf := 162) (lb := #[.pointer (some ⟨w.heap.size + 1, 0, none⟩)]) rfl (enters_of Tryz.func162 (by kernel_rfl) rfl)
    (fields_all w.heap.size (w.heap.size + 1) s w w1 (by omega) hT rfl ho isb) (Fr.refl _ _) (fun _ => rfl) (fun _ h => h.elim) (fun k h => by omega)
    (fun i W => ∃ B d, Is W w.heap.size 25 #[.slice B i d] ∧ W.ownsRow w.heap.size 3 1 (.slice B i d) i ((((fieldsM s).take i).map numOf).map (Value.int .i64)) ∧ (∀ k, (Value.slice B i d).ownBlock = some k → w1.heap.size + 2 ≤ k) ∧ Fr (fun _ => False) w W)
    ?hI ?h0 (fun x => { tmps := #[.string ⟨s.toArray⟩, undef, .slice none 0 0, .pointer (some ⟨w.heap.size, 0, none⟩), .string ⟨x.toArray⟩, undef, undef, .string ⟨s.toArray⟩, .func (.func 162) #[] #[.pointer (some ⟨w.heap.size + 1, 0, none⟩)], .string ⟨x.toArray⟩, undef, undef, undef, undef, undef, undef, undef, undef, undef, undef], defers := [] }) ?assign ?body ?done
  case assign =>
    intro l x W K hK
    simp only [encT]
    gi_wp2
    exact hK
  case hI =>
    rintro i A B' ⟨B, d, h1, h2, h3, h4⟩ hf
    have two : ∀ k, k ≠ w1.heap.size → k ≠ w1.heap.size + 1 → ¬ (False ∨ k = w1.heap.size ∨ k = w1.heap.size + 1) := fun k a b h => h.elim id fun h => h.elim a b
    exact ⟨B, d, h1.fr hf (two _ (by omega) (by omega)), wide_fr h2 hf (fun k hk => two k (by have := h3 k hk; omega) (by have := h3 k hk; omega)), h3, h4.trans hf fun k hk h => two k (by omega) (by omega) h⟩
  case h0 => exact ⟨none, 0, isl, World.ownsRow_nil _ _ _ _, (fun k hk => by cases hk), F1⟩
  case done =>
    rintro W ⟨B, d, h1, h2, h3, h4⟩ hd
    rw [List.take_length] at h2
    have c0 := h1.cell 0
    go_wp2_with fail
    refine ⟨by simp, .inl ⟨_, _, rfl, run_takeDeferred hd, ?_⟩⟩
    have fp : Fr (fun k => k = w1.heap.size) W (W.putObj w1.heap.size (.deferred none)) := Fr.putObj _ rfl
    have hl2 : ((fieldsM s).map numOf).length = (fieldsM s).length := List.length_map _
    refine ⟨_, results_tmp rfl _ _ _, B, d, by rw [hl2]; rfl, ?_, h4.trans fp fun k hk h => by omega⟩
    rw [hl2]
    exact wide_fr h2 fp fun k hk e => by have := h3 k hk; omega
  case body =>
    rintro l i hi W ⟨B, d, h1, h2, h3, h4⟩ hlt
    have hE2 := Old.errs (w0 := w) (w := W) ⟨h4.size, fun k hk => h4.block k hk id⟩ hE
    have KA := atoi_any (fieldsM s)[i] W (by have := hlen _ (List.getElem_mem hi); omega) hE2
    have hsn : ((fieldsM s).take (i + 1)).map numOf = ((fieldsM s).take i).map numOf ++ [numOf (fieldsM s)[i]] := by rw [List.take_succ_eq_append_getElem hi, List.map_append]; rfl
    have HS := Lib.hid hsn
    have hib : i ≤ s.length := by have e : (fieldsM s).length ≤ s.length + 1 := hcnt; omega
    clear hsn
    gi_wp2
    refine ⟨trivial, CallsIn.inRound l (callsIn_wide.2 (KA.mono ?_))⟩
    rintro _ w2 ⟨ev, rfl, f2⟩
    clear KA
    have h1 := h1.fr f2 id
    have h2 := wide_fr h2 f2 fun _ _ => id
    have h4 := fr_nil h4 f2
    have hsz2 := f2.size
    generalize numOf (fieldsM s)[i] = z at *
    have c0 := h1.cell 0
    have c1 := h1.frozen 0
    gi_wp2_with (gi_at_builtin; refine wpListIn_append_wide _ rfl _ _ 25 rfl w.heap.size 3 i0 _ 1 8 Tryz.underlying25 hi0 hz0 hz1 hz2 rfl (by decide) _ _ _ rfl (h2.alloc _) (some ⟨w2.heap.size, 0, none⟩) 1 1 [.int .i64 z] rfl rfl (lit_rd_at (by simp) _ _) (by simp [Value.oneCell']) (by unfold maxLen; omega) (by omega) (Nat.le_trans h4.size (by simp)) ?_; intro v6 w6 hown6 hg6 hat6; obtain ⟨A6, c6, rfl, _, _, _, _⟩ := wide_form hown6
                 have f6 := (Fr.refl (fun j => (Value.slice B i d).ownBlock = some j) _).grown hg6 fun j hj => .inl hj
                 have hb6 : Is w6 w.heap.size 25 #[.slice B i d] := (h1.alloc _).fr f6 (fun e => by have := h3 _ e; omega)
                 have d0 := hb6.cell 0
                 have d1 := hb6.frozen 0)
    have hlo := World.ownsRow.lt h2
    have h36 : ∀ k, (Value.slice A6 (i + 1) c6).ownBlock = some k → w1.heap.size + 2 ≤ k := fun k hk => by
      rcases hat6 with e | e
      · exact h3 k (e ▸ hk)
      · rw [e] at hk
        injection hk with hk
        simp at hk
        omega
    have fs : Fr (fun k => k = w.heap.size) w6 (w6.setCell ⟨w.heap.size, 0, none⟩ (.slice A6 (i + 1) c6)) := (Fr.refl (fun k => k = w.heap.size) w6).setCell (p := ⟨w.heap.size, 0, none⟩) (.inl rfl) _
    refine ⟨⟨A6, c6, hb6.set 0 _, ?_, h36, ?_⟩, ?_, ?_⟩
    · rw [HS.out, List.map_append]
      exact wide_fr hown6 fs fun k hk e => by have := h36 k hk; omega
    · exact ((h4.alloc _).grown hg6 fun j hj => .inr (hlo j hj).1).setCell (.inr (Nat.le_refl _)) _
    · exact Nat.le_trans (Nat.le_trans hsz2 (by simp)) (Nat.le_trans f6.size fs.size)
    · intro k hk hT
      have hkb : k ≠ w.heap.size ∧ k < w1.heap.size + 2 := by omega
      have s1 : k < w2.heap.size := Nat.lt_of_lt_of_le hk hsz2
      exact (fs.block k (Nat.lt_of_lt_of_le (by simp; omega) f6.size) hkb.1).trans ((f6.block k (by simp; omega) (fun e => by have := h3 k e; omega)).trans ((Below.heap_alloc w2 _ k s1).trans (f2.block k hk id)))
end Go.Proofs.YtkkohdmneognlaaGreatDoor
/- slices.Chunk at []int whose length its size divides: the maker and the iterator. -/
namespace Go.Proofs.YtkkohdmneognlaaGreatDoor
open Go.RowKit Go.Shelf
attribute [local go_sem] Oper.semAt_some

def encC (A : Option Addr) (n : Nat) (i : Nat) : Array Value := #[.slice (A.map fun a => ⟨a.block, a.off + i * n, none⟩) n n]
theorem chunk_mk {A : Option Addr} {m c : Nat} (n : Nat) (hn : 1 ≤ n) (hn8 : n ≤ 8) (w : World) : Calls Tryz.prog 143 #[.slice A m c, .int .i64 n] w fun e w' =>
    e = .returned (.func (.func 161) #[] #[.pointer (some ⟨w.heap.size, 0, none⟩), .pointer (some ⟨w.heap.size + 1, 0, none⟩)]) ∧ Is w' w.heap.size 25 #[.slice A m c] ∧ Is w' (w.heap.size + 1) 3 #[.int .i64 n] ∧ Fr (fun _ => False) w w' ∧ w'.heap.size = w.heap.size + 2 := by
  have hn1 : ¬ (n : Int) < 1 := by omega
  have d1 : decide ((n : Int) < 1) = false := by simp; omega
  go_enter Tryz.func143, Tryz.ntmps143
  go_wp2_with fail
  go_ret
  exact ⟨rfl, (Is.new w _ _).alloc _, is_new_at (by simp) _ _, ((Fr.refl _ _).alloc _).alloc _, by simp⟩

set_option maxRecDepth 100000 in
set_option maxHeartbeats 8000000 in
theorem chunk_all (b1 b2 : Nat) (A : Option Addr) (m n c : Nat) (w : World) (hn : 1 ≤ n) (hn8 : n ≤ 8) (hm : m ≤ 17592186044416) (hc : m * n ≤ c) (hc2 : c ≤ 9223372036854775807) (hA : 0 < m → ∃ g o, A = some ⟨g, o, none⟩) (h1 : Is w b1 25 #[.slice A (m * n) c]) (h2 : Is w b2 3 #[.int .i64 n]) :
    SeqAll Tryz.prog 161 #[.pointer (some ⟨b1, 0, none⟩), .pointer (some ⟨b2, 0, none⟩)] (encC A n) (fun _ => False) (fun k => k = b1 ∨ k = b2) (List.range m) w := by
  intro l J W hW hJ hY h0
  refine (callsIn_wide (n := 4)).1 (callsIn_of_wp (n := 4) (F := Fence.wide) Tryz.func161 rfl trivial ?_ rfl)
  simp only [Tryz.ntmps161, List.size_toArray, List.length_cons, List.length_nil, Nat.reduceAdd, Nat.reduceSub, Array.replicate_succ, Array.replicate_zero, List.push_toArray, List.append_toArray, List.nil_append, List.cons_append]
  gi_wp2
  gi_loopw [4] (fun v4 wr => ∃ j : Nat, j ≤ m ∧ v4 = .int .i64 (j * n : Nat) ∧ Is wr b1 25 #[.slice A (m * n) c] ∧ Is wr b2 3 #[.int .i64 n] ∧ J j wr) (fun i _ => m * n + n - (intOf i).toNat)
  case atStart => exact ⟨0, Nat.zero_le _, by simp, h1.fr hW id, h2.fr hW id, h0⟩
  case round =>
    obtain ⟨j, hj, rfl, i1, i2, hJj⟩ := hrel
    have c1 := i1.cell 0
    have c2 := i2.cell 0
    by_cases hlt : j < m
    · obtain ⟨g, o, rfl⟩ := hA (by omega)
      have hle : j * n + n ≤ m * n := by rw [← Nat.succ_mul]; exact Nat.mul_le_mul_right n hlt
      have hmn : m * n ≤ 8 * m := by rw [Nat.mul_comm]; exact Nat.mul_le_mul_right m hn8
      have hY1 := hY j (by simpa using hlt) wr.drew (hJ j _ _ hJj (Fr.refl _ _).drew)
      rw [List.getElem_range] at hY1
      obtain ⟨fn, tmps, assign, body, hy, hR⟩ := hY1
      dsimp only [encC, Option.map] at hy
      generalize hq : j * n = q at *
      generalize hM : m * n = M at *
      have HQ := Lib.hid hq
      have HM := Lib.hid hM
      clear hq hM
      have k1 : (q : Int) < (M : Int) := by omega
      have k3 : min (n : Int) ((M - q : Nat) : Int) = (n : Int) := by omega
      have k4 : ((q : Int) + (n : Int)).toNat - q = n := by omega
      have k2 : ((M : Int) - (q : Int)) = ((M - q : Nat) : Int) := by omega
      gi_wp2
      refine (wpIn_wide (n := 4)).2 ?_
      go_region
      all_goals gi_wp2
      refine hR.mono ?_
      rintro e W2 ⟨rfl, hj2, hk2⟩
      have i1b := hk2.is_ i1.drew (.inl rfl)
      have i2b := hk2.is_ i2.drew (.inr rfl)
      have c1 := i1b.cell 0
      have c2 := i2b.cell 0
      gi_wp2
      go_roundw
      case rel => exact ⟨j + 1, hlt, by rw [Nat.succ_mul, HQ.out, Int.natCast_add], i1b, i2b, hj2⟩
      case measure => simp [intOf]; omega
    · obtain rfl : j = m := by omega
      have k1 : ¬ ((j * n : Nat) : Int) < ((j * n : Nat) : Int) := by omega
      gi_wp2
      go_end0
      exact ⟨⟨_, rfl⟩, by simpa using hJj⟩
end Go.Proofs.YtkkohdmneognlaaGreatDoor
/- strings.Cut; what take and takeRoute ask of the world. -/
namespace Go.Proofs.YtkkohdmneognlaaGreatDoor
open Go.RowKit Go.Shelf

/-- all that reading a text asks of the world -/
structure Rds (w : World) : Prop where
  tabs : Tabs w
  errs : Errs w
  mlen : ∃ m, w.cell? ⟨1, 0, none⟩ = some (.int .i64 m)
theorem Old.rds {w0 w : World} (h : Old w0.heap.size w0 w) (e : Rds w0) : Rds w := by
  obtain ⟨m, hm⟩ := e.mlen
  exact ⟨h.tabs e.tabs, h.errs e.errs, m, (World.cell?_of_block (h.2 1 (cell_lt hm))).trans hm⟩
theorem Rds.fr {w w1 : World} (h : Rds w) (f : Fr (fun _ => False) w w1) : Rds w1 := Old.rds (w0 := w) ⟨f.size, fun k hk => f.block k hk id⟩ h
theorem cut_any (s sep : List UInt8) (w : World) (hs : s.length < 4294967281) (h : Rds w) :
    Calls Tryz.prog 112 #[.string ⟨s.toArray⟩, .string ⟨sep.toArray⟩] w fun e w' => e = .returned (.tuple #[.string ⟨(Lib.cut s sep).1.toArray⟩, .string ⟨(Lib.cut s sep).2.1.toArray⟩, .bool (Lib.cut s sep).2.2]) ∧ Fr (fun _ => False) w w' := by
  obtain ⟨m, hm⟩ := h.mlen
  refine (Any.strings_Cut { Tryz.laysM145 with } ⟨s.toArray⟩ ⟨sep.toArray⟩ m w (by simpa [ByteArray.size] using hs) hm).mono ?_
  rintro e w' ⟨rfl, n, rfl⟩
  exact ⟨rfl, (Fr.refl _ _).drewN n⟩
end Go.Proofs.YtkkohdmneognlaaGreatDoor
/- The words of a part of a line that is a row of numbers; the numbers of the words (plain mathematics). -/
namespace Go.Proofs.YtkkohdmneognlaaGreatDoor
open Go.RowKit

/-- the word under way is st.. up to i -/
def curOf (s : List UInt8) (st : Int) (i : Nat) : List UInt8 := (s.take i).drop st.toNat
/-- plain bytes: ASCII, no white space -/
def plainB (b : UInt8) : Prop := b.toNat < 128 ∧ ascB b = false
theorem fields_space {s : List UInt8} {i : Nat} {b : UInt8} (st : Int) (h : s[i]? = some b) (hb : b.toNat < 128) (ha : ascB b = true) :
    fieldsI s st i = (if 0 ≤ st then [curOf s st i] else []) ++ fieldsI s (-1) (i + 1) := by
  obtain ⟨hi, he⟩ := List.getElem?_eq_some_iff.1 h
  have hs : spc (s.drop i) = (true, 1) := by
    rw [List.drop_eq_getElem_cons hi, he]
    unfold spc
    dsimp only
    rw [if_pos hb, ha]
  rw [fieldsI_step hi, hs, if_pos rfl]
  rfl
theorem fields_plain {s : List UInt8} {i : Nat} {b : UInt8} (st : Int) (h : s[i]? = some b) (hb : plainB b) : fieldsI s st i = fieldsI s (if st < 0 then i else st) (i + 1) := by
  obtain ⟨hi, he⟩ := List.getElem?_eq_some_iff.1 h
  have hs : spc (s.drop i) = (false, 1) := by
    rw [List.drop_eq_getElem_cons hi, he]
    unfold spc
    dsimp only
    rw [if_pos hb.1, hb.2]
  rw [fieldsI_step hi, hs, if_neg (by decide)]
/-- a run of plain bytes -/
theorem fields_run (s : List UInt8) : ∀ (w : List UInt8) (i : Nat) (st : Nat), (∀ b ∈ w, plainB b) → (∀ j, j < w.length → s[i + j]? = w[j]?) → fieldsI s (st : Nat) i = fieldsI s (st : Nat) (i + w.length)
  | [], i, st, _, _ => rfl
  | b :: r, i, st, hp, hs => by
    have h0 := hs 0 (by simp)
    rw [fields_plain (st : Nat) (b := b) (by simpa using h0) (hp b List.mem_cons_self), if_neg (by omega), fields_run s r (i + 1) st (fun x hx => hp x (List.mem_cons_of_mem _ hx)) (fun j hj => by
      have := hs (j + 1) (by simp; omega)
      rw [show i + 1 + j = i + (j + 1) by omega, this]
      rfl)]
    rw [List.length_cons, show i + 1 + r.length = i + (r.length + 1) by omega]
/-- a word, and white space or the end behind it -/
theorem fields_word (s : List UInt8) (w : List UInt8) (i : Nat) (h0 : w ≠ []) (hp : ∀ b ∈ w, plainB b) (hs : ∀ j, j < w.length → s[i + j]? = w[j]?) :
    fieldsI s (-1) i = fieldsI s (i : Nat) (i + w.length) := by
  cases w with
  | nil => exact (h0 rfl).elim
  | cons b r =>
    have h1 := hs 0 (by simp)
    rw [fields_plain (-1) (b := b) (by simpa using h1) (hp b List.mem_cons_self), if_pos (by decide), fields_run s r (i + 1) i (fun x hx => hp x (List.mem_cons_of_mem _ hx)) (fun j hj => by
      have := hs (j + 1) (by simp; omega)
      rw [show i + 1 + j = i + (j + 1) by omega, this]
      rfl)]
    rw [List.length_cons, show i + 1 + r.length = i + (r.length + 1) by omega]
/-- numbers, each behind a blank, from place i on; behind them the end, or a line's end and the end -/
theorem fields_nums (s t : List UInt8) (ht : t = [] ∨ t = [10]) : ∀ (ws : List (List UInt8)) (i : Nat), (∀ w ∈ ws, w ≠ [] ∧ ∀ b ∈ w, plainB b) → s.drop i = ws.flatMap (fun w => 32 :: w) ++ t → i ≤ s.length → fieldsI s (-1) i = ws
  | [], i, _, hd, hi => by
    rw [List.flatMap_nil, List.nil_append] at hd
    rcases ht with rfl | rfl
    · have : s.length ≤ i := by
        have := List.length_drop (i := i) (l := s)
        rw [hd] at this
        simp at this
        omega
      rw [fieldsI_end this, if_neg (by decide)]
    · obtain ⟨h1, h2, h3⟩ := drop_head hd
      have h4 : s.length ≤ i + 1 := by
        have := List.length_drop (i := i + 1) (l := s)
        rw [h3] at this
        simp at this
        omega
      rw [fields_space (-1) (b := 10) (by rw [List.getElem?_eq_getElem h1, h2]) (by decide) (by decide), if_neg (by decide), fieldsI_end h4, if_neg (by decide)]
      rfl
  | w :: r, i, hw, hd, hi => by
    rw [List.flatMap_cons, List.append_assoc, List.cons_append] at hd
    obtain ⟨h1, h2, h3⟩ := drop_head hd
    have hww := hw w List.mem_cons_self
    have hs : ∀ j, j < w.length → s[i + 1 + j]? = w[j]? := fun j hj => by
      rw [← List.getElem?_drop, h3, List.getElem?_append_left hj]
    have hlen : i + 1 + w.length ≤ s.length := by
      have := congrArg List.length h3
      rw [List.length_drop, List.length_append] at this
      omega
    have hd2 : s.drop (i + 1 + w.length) = r.flatMap (fun w => 32 :: w) ++ t := by
      rw [← List.drop_drop, h3, List.drop_left]
    have hcur : curOf s ((i + 1 : Nat) : Int) (i + 1 + w.length) = w := by
      unfold curOf
      rw [Int.toNat_natCast, List.drop_take, h3, show i + 1 + w.length - (i + 1) = w.length by omega, List.take_left]
    rw [fields_space (-1) (b := 32) (by rw [List.getElem?_eq_getElem h1, h2]) (by decide) (by decide), if_neg (by decide), List.nil_append, fields_word s w (i + 1) hww.1 hww.2 hs]
    have ih := fields_nums s t ht r (i + 1 + w.length) (fun x hx => hw x (List.mem_cons_of_mem _ hx)) hd2 hlen
    -- behind the word: the end, a line's end, or a blank
    cases r with
    | nil =>
      rw [List.flatMap_nil, List.nil_append] at hd2
      rcases ht with rfl | rfl
      · have hle : s.length ≤ i + 1 + w.length := by
          have := List.length_drop (i := i + 1 + w.length) (l := s)
          rw [hd2] at this
          simp at this
          omega
        rw [fieldsI_end hle, if_pos (by omega)]
        have : s.drop ((i + 1 : Nat) : Int).toNat = w := by rw [Int.toNat_natCast, h3]; simp
        rw [this]
      · obtain ⟨k1, k2, k3⟩ := drop_head hd2
        rw [fields_space _ (b := 10) (by rw [List.getElem?_eq_getElem k1, k2]) (by decide) (by decide), if_pos (by omega), hcur]
        have hle : s.length ≤ i + 1 + w.length + 1 := by
          have := List.length_drop (i := i + 1 + w.length + 1) (l := s)
          rw [k3] at this
          simp at this
          omega
        rw [fieldsI_end hle, if_neg (by decide)]
        rfl
    | cons x r =>
      rw [List.flatMap_cons, List.append_assoc, List.cons_append] at hd2
      obtain ⟨k1, k2, k3⟩ := drop_head hd2
      have e := fields_space (s := s) (i := i + 1 + w.length) (b := 32) (-1) (by rw [List.getElem?_eq_getElem k1, k2]) (by decide) (by decide)
      rw [if_neg (by decide), List.nil_append] at e
      rw [fields_space _ (b := 32) (by rw [List.getElem?_eq_getElem k1, k2]) (by decide) (by decide), if_pos (by omega), hcur, ← e, ih]
      rfl
end Go.Proofs.YtkkohdmneognlaaGreatDoor
/- A number's numeral, read back (plain mathematics). -/
namespace Go.Proofs.YtkkohdmneognlaaGreatDoor
open Go.RowKit

theorem dig_toNat {d : Nat} (h : d < 10) : (UInt8.ofNat (48 + d)).toNat = 48 + d := by
  rw [UInt8.toNat_ofNat']
  exact Nat.mod_eq_of_lt (by omega)
theorem parse_digits : ∀ (u : Nat) (r : List UInt8), u < 18446744073709551616 → Lib.parseUint10 0 (Lib.decDigits u ++ r) = Lib.parseUint10 u r := by
  intro u
  induction u using Nat.strongRecOn with
  | _ u ih =>
    intro r hu
    by_cases h : u < 10
    · rw [Lib.decDigits_one h, List.singleton_append, Lib.parseUint10, dig_toNat h, if_pos (by omega), if_neg (by omega), if_neg (by omega)]
      congr 1
      omega
    · rw [Lib.decDigits, dif_neg h, List.append_assoc, ih (u / 10) (by omega) _ (by omega), List.singleton_append, Lib.parseUint10, dig_toNat (by omega), if_pos (by omega), if_neg (by omega), if_neg (by omega)]
      congr 1
      omega
theorem digits_form : ∀ (u : Nat), Lib.decDigits u ≠ [] ∧ ∀ b ∈ Lib.decDigits u, 48 ≤ b.toNat ∧ b.toNat ≤ 57 := by
  intro u
  induction u using Nat.strongRecOn with
  | _ u ih =>
    by_cases h : u < 10
    · rw [Lib.decDigits_one h]
      refine ⟨by simp, fun b hb => ?_⟩
      rw [List.mem_singleton.1 hb, dig_toNat h]
      omega
    · rw [Lib.decDigits, dif_neg h]
      obtain ⟨_, h2⟩ := ih (u / 10) (by omega)
      refine ⟨by simp, fun b hb => ?_⟩
      rcases List.mem_append.1 hb with hb | hb
      · exact h2 b hb
      · rw [List.mem_singleton.1 hb, dig_toNat (by omega)]
        omega
theorem mag_digits (u : Nat) (hu : u < 18446744073709551616) : Lib.parseMag (Lib.decDigits u) = .ok u := by
  unfold Lib.parseMag
  rw [if_neg (digits_form u).1]
  have := parse_digits u [] hu
  rw [List.append_nil] at this
  rw [this]
  rfl
theorem atoi_itoa (n : Int) (h0 : -9223372036854775808 ≤ n) (h1 : n ≤ 9223372036854775807) : Lib.atoiAll (Lib.itoa n) = .ok n := by
  by_cases hn : n < 0
  · obtain ⟨u, rfl⟩ : ∃ u : Nat, n = -(u : Int) := ⟨n.natAbs, by omega⟩
    rw [Lib.itoa_neg u (by omega)]
    have hm := mag_digits u (by omega)
    have key : ∀ c : UInt8, c.toNat = 45 → Lib.atoiAll (c :: Lib.decDigits u) = .ok (-(u : Int)) := fun c e2 => by
      have e1 : c.toNat = 43 ∨ c.toNat = 45 := .inr e2
      unfold Lib.atoiAll
      dsimp only
      rw [if_pos e1, hm]
      dsimp only
      rw [if_neg (by rintro ⟨h, _⟩; exact h e2), if_neg (by rintro ⟨_, h⟩; omega), if_pos e2]
    exact key 45 (by decide)
  · obtain ⟨u, rfl⟩ : ∃ u : Nat, n = (u : Int) := ⟨n.toNat, by omega⟩
    rw [Lib.itoa_nonneg]
    obtain ⟨hne, hb⟩ := digits_form u
    cases hd : Lib.decDigits u with
    | nil => exact (hne hd).elim
    | cons c r =>
      have hc := hb c (by rw [hd]; exact List.mem_cons_self)
      have hm := mag_digits u (by omega)
      rw [hd] at hm
      unfold Lib.atoiAll
      have e1 : ¬ (c.toNat = 43 ∨ c.toNat = 45) := by omega
      have e2 : ¬ c.toNat = 45 := by omega
      dsimp only
      rw [if_neg e1, hm]
      dsimp only
      rw [if_neg (by rintro ⟨_, h⟩; omega), if_neg (by rintro ⟨h, _⟩; exact e2 h), if_neg e2]
theorem num_itoa (n : Int) (h0 : -9223372036854775808 ≤ n) (h1 : n ≤ 9223372036854775807) : numOf (Lib.itoa n) = n := by
  unfold numOf
  rw [atoi_itoa n h0 h1]
theorem itoa_plain (n : Int) : Lib.itoa n ≠ [] ∧ ∀ b ∈ Lib.itoa n, plainB b := by
  have dp : ∀ b : UInt8, (48 ≤ b.toNat ∧ b.toNat ≤ 57) ∨ b.toNat = 45 → plainB b := fun b hb => by
    refine ⟨by omega, ?_⟩
    unfold ascB
    simp
    omega
  unfold Lib.itoa
  split
  · refine ⟨by simp, fun b hb => ?_⟩
    rcases List.mem_cons.1 hb with e | hb
    · subst e; exact dp _ (.inr (by decide))
    · exact dp _ (.inl ((digits_form _).2 b hb))
  · exact ⟨(digits_form _).1, fun b hb => dp _ (.inl ((digits_form _).2 b hb))⟩
theorem numsM_flat : ∀ (l : List Int), numsM l = (l.map Lib.itoa).flatMap fun w => 32 :: w
  | [] => rfl
  | n :: r => by rw [numsM, List.map_cons, List.flatMap_cons, numsM_flat r]
/-- a part that is a row of numbers is read as these numbers -/
theorem part_nums (l : List Int) (t : List UInt8) (ht : t = [] ∨ t = [10]) (h : In64 l) : (fieldsM (numsM l ++ t)).map numOf = l := by
  have e : fieldsM (numsM l ++ t) = l.map Lib.itoa := by
    have := fields_nums (numsM l ++ t) t ht (l.map Lib.itoa) 0 (fun w hw => by
      obtain ⟨n, _, rfl⟩ := List.mem_map.1 hw
      exact itoa_plain n) (by rw [List.drop_zero, numsM_flat]) (Nat.zero_le _)
    exact this
  rw [e, List.map_map]
  have : l.map (numOf ∘ Lib.itoa) = l.map id := List.map_congr_left fun n hn => num_itoa n (h n hn).1 (h n hn).2
  rw [this, List.map_id]
end Go.Proofs.YtkkohdmneognlaaGreatDoor
/- A part that is a row of numbers without a blank ahead (plain mathematics). -/
namespace Go.Proofs.YtkkohdmneognlaaGreatDoor
open Go.RowKit

theorem fields_from (s t : List UInt8) (ht : t = [] ∨ t = [10]) (w : List UInt8) (r : List (List UInt8)) (i : Nat) (hww : w ≠ [] ∧ ∀ b ∈ w, plainB b) (hw : ∀ w ∈ r, w ≠ [] ∧ ∀ b ∈ w, plainB b) (h3 : s.drop i = w ++ (r.flatMap (fun w => 32 :: w) ++ t)) (hi : i ≤ s.length) : fieldsI s (-1) i = w :: r := by
    have hs : ∀ j, j < w.length → s[i + j]? = w[j]? := fun j hj => by
      rw [← List.getElem?_drop, h3, List.getElem?_append_left hj]
    have hlen : i + w.length ≤ s.length := by
      have := congrArg List.length h3
      rw [List.length_drop, List.length_append] at this
      omega
    have hd2 : s.drop (i + w.length) = r.flatMap (fun w => 32 :: w) ++ t := by
      rw [← List.drop_drop, h3, List.drop_left]
    have hcur : curOf s (i : Int) (i + w.length) = w := by
      unfold curOf
      rw [Int.toNat_natCast, List.drop_take, h3, show i + w.length - i = w.length by omega, List.take_left]
    rw [fields_word s w i hww.1 hww.2 hs]
    have ih := fields_nums s t ht r (i + w.length) hw hd2 hlen
    -- behind the word: the end, a line's end, or a blank
    cases r with
    | nil =>
      rw [List.flatMap_nil, List.nil_append] at hd2
      rcases ht with rfl | rfl
      · have hle : s.length ≤ i + w.length := by
          have := List.length_drop (i := i + w.length) (l := s)
          rw [hd2] at this
          simp at this
          omega
        rw [fieldsI_end hle, if_pos (by omega)]
        have : s.drop (i : Int).toNat = w := by rw [Int.toNat_natCast, h3]; simp
        rw [this]
      · obtain ⟨k1, k2, k3⟩ := drop_head hd2
        rw [fields_space _ (b := 10) (by rw [List.getElem?_eq_getElem k1, k2]) (by decide) (by decide), if_pos (by omega), hcur]
        have hle : s.length ≤ i + w.length + 1 := by
          have := List.length_drop (i := i + w.length + 1) (l := s)
          rw [k3] at this
          simp at this
          omega
        rw [fieldsI_end hle, if_neg (by decide)]
        rfl
    | cons x r =>
      rw [List.flatMap_cons, List.append_assoc, List.cons_append] at hd2
      obtain ⟨k1, k2, k3⟩ := drop_head hd2
      have e := fields_space (s := s) (i := i + w.length) (b := 32) (-1) (by rw [List.getElem?_eq_getElem k1, k2]) (by decide) (by decide)
      rw [if_neg (by decide), List.nil_append] at e
      rw [fields_space _ (b := 32) (by rw [List.getElem?_eq_getElem k1, k2]) (by decide) (by decide), if_pos (by omega), hcur, ← e, ih]
      rfl
theorem part_nums1 (n : Int) (l : List Int) (t : List UInt8) (ht : t = [] ∨ t = [10]) (h : In64 (n :: l)) : (fieldsM (Lib.itoa n ++ (numsM l ++ t))).map numOf = n :: l := by
  have e : fieldsM (Lib.itoa n ++ (numsM l ++ t)) = (n :: l).map Lib.itoa := by
    have := fields_from (Lib.itoa n ++ (numsM l ++ t)) t ht (Lib.itoa n) (l.map Lib.itoa) 0 (itoa_plain n) (fun w hw => by
      obtain ⟨n, _, rfl⟩ := List.mem_map.1 hw
      exact itoa_plain n) (by rw [List.drop_zero, numsM_flat]) (Nat.zero_le _)
    exact this
  rw [e, List.map_map]
  have : (n :: l).map (numOf ∘ Lib.itoa) = (n :: l).map id := List.map_congr_left fun n hn => num_itoa n (h n hn).1 (h n hn).2
  rw [this, List.map_id]
end Go.Proofs.YtkkohdmneognlaaGreatDoor

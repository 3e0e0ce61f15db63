/- Contracts and plain mathematics of earlier stages: Track, Leaf, Ways, Next, Refs, Refw, Follow, Same. -/
import Derived.KernelRfl
import Derived.Test.YtbjbkaphigolnaaKa
import Derived.Outline
import Derived.Laws.MakeOwn
import Derived.Deep.RegionHeld3
import Derived.StillTailTactics
namespace Go.Proofs.Ytbjbkaphigolnaa

structure Sec where
  kind : Int
  oc : Int
  line : Int
structure Jo where
  a : Int
  ae : Int
  b : Int
  be : Int
structure St where
  sec : Int
  inn : Int
  out : Int
instance : Inhabited Sec := ⟨⟨0, 0, 0⟩⟩
instance : Inhabited Jo := ⟨⟨0, 0, 0, 0⟩⟩
instance : Inhabited St := ⟨⟨0, 0, 0⟩⟩

/-- a way through a section: its two ends, its position -/
structure Wy where
  a : Int
  b : Int
  pos : Int
def waysM (k : Int) : List Wy := if k = 0 then [⟨0, 1, 0⟩] else if k = 1 then [⟨0, 1, 1⟩, ⟨0, 2, 2⟩] else if k = 2 then [⟨0, 1, 0⟩, ⟨2, 3, 0⟩] else []
def endsM (k : Int) : Int := if k = 0 then 2 else if k = 1 then 3 else if k = 2 then 4 else 0

/-- the other end of a way -/
def farOk (w : Wy) (i : Int) : Bool := decide (i = w.a) || decide (i = w.b)
def farOut (w : Wy) (i : Int) : Int := if i = w.a then w.b else if i = w.b then w.a else 0
def opn (w : Wy) (p : Int) : Bool := decide (w.pos = 0) || decide (w.pos = p)

def wayOkL : List Wy → Int → Int → Bool
  | [], _, _ => false
  | w :: r, i, p => (farOk w i && opn w p) || wayOkL r i p
def wayOutL : List Wy → Int → Int → Int
  | [], _, _ => 0
  | w :: r, i, p => if (farOk w i && opn w p) = true then farOut w i else wayOutL r i p
def posOkL : List Wy → Int → Int → Bool
  | [], _, _ => false
  | w :: r, i, o => (farOk w i && decide (farOut w i = o)) || posOkL r i o
def posOutL : List Wy → Int → Int → Int
  | [], _, _ => 0
  | w :: r, i, o => if (farOk w i && decide (farOut w i = o)) = true then w.pos else posOutL r i o
def wayOk (k i p : Int) : Bool := wayOkL (waysM k) i p
def wayOut (k i p : Int) : Int := wayOutL (waysM k) i p
def posOk (k i o : Int) : Bool := posOkL (waysM k) i o
def posOut (k i o : Int) : Int := posOutL (waysM k) i o

theorem kind_cases (k : Int) : k = 0 ∨ k = 1 ∨ k = 2 ∨ (k ≠ 0 ∧ k ≠ 1 ∧ k ≠ 2) := by omega
theorem ways_none {k : Int} (h : k ≠ 0 ∧ k ≠ 1 ∧ k ≠ 2) : waysM k = [] := by unfold waysM; rw [if_neg h.1, if_neg h.2.1, if_neg h.2.2]

/-- Ways go both ways round. -/
theorem way_back (k i p : Int) (h : wayOk k i p = true) : wayOk k (wayOut k i p) p = true ∧ wayOut k (wayOut k i p) p = i ∧ wayOut k i p ≠ i ∧ 0 ≤ wayOut k i p ∧ wayOut k i p < endsM k ∧ 0 ≤ i ∧ i < endsM k := by
  rcases kind_cases k with rfl | rfl | rfl | hk
  · simp [wayOk, waysM, wayOkL, farOk, opn] at h
    rcases h with rfl | rfl <;> simp [wayOk, wayOut, waysM, wayOkL, wayOutL, farOk, farOut, opn, endsM]
  · simp [wayOk, waysM, wayOkL, farOk, opn] at h
    rcases h with ⟨rfl | rfl, rfl⟩ | ⟨rfl | rfl, rfl⟩ <;> simp [wayOk, wayOut, waysM, wayOkL, wayOutL, farOk, farOut, opn, endsM]
  · simp [wayOk, waysM, wayOkL, farOk, opn] at h
    rcases h with (rfl | rfl) | rfl | rfl <;> simp [wayOk, wayOut, waysM, wayOkL, wayOutL, farOk, farOut, opn, endsM]
  · rw [wayOk, ways_none hk] at h
    cases h
theorem way_pos (k i p : Int) (h : wayOk k i p = true) : posOk k i (wayOut k i p) = true ∧ (posOut k i (wayOut k i p) = 0 ∨ posOut k i (wayOut k i p) = p) := by
  rcases kind_cases k with rfl | rfl | rfl | hk
  · simp [wayOk, waysM, wayOkL, farOk, opn] at h
    rcases h with rfl | rfl <;> simp [posOk, posOut, wayOut, waysM, posOkL, posOutL, wayOutL, farOk, farOut, opn]
  · simp [wayOk, waysM, wayOkL, farOk, opn] at h
    rcases h with ⟨rfl | rfl, rfl⟩ | ⟨rfl | rfl, rfl⟩ <;> simp [posOk, posOut, wayOut, waysM, posOkL, posOutL, wayOutL, farOk, farOut, opn]
  · simp [wayOk, waysM, wayOkL, farOk, opn] at h
    rcases h with (rfl | rfl) | rfl | rfl <;> simp [posOk, posOut, wayOut, waysM, posOkL, posOutL, wayOutL, farOk, farOut, opn]
  · rw [wayOk, ways_none hk] at h
    cases h
theorem pos_ne (k i o : Int) (h : posOk k i o = true) : i ≠ o := by
  rcases kind_cases k with rfl | rfl | rfl | hk
  · simp [posOk, waysM, posOkL, farOk, farOut] at h
    rcases h with ⟨rfl | rfl, rfl⟩ <;> simp
  · simp [posOk, waysM, posOkL, farOk, farOut] at h
    rcases h with ⟨rfl | rfl, rfl⟩ | ⟨rfl | rfl, rfl⟩ <;> simp
  · simp [posOk, waysM, posOkL, farOk, farOut] at h
    rcases h with ⟨rfl | rfl, rfl⟩ | ⟨rfl | rfl, rfl⟩ <;> simp
  · rw [posOk, ways_none hk] at h
    cases h
theorem way_none_out (k i p : Int) (h : wayOk k i p = false) : wayOut k i p = 0 := by
  unfold wayOk at h
  unfold wayOut
  generalize waysM k = l at h
  induction l with
  | nil => rfl
  | cons w r ih =>
    rw [wayOkL, Bool.or_eq_false_iff] at h
    rw [wayOutL, if_neg (by rw [h.1]; decide)]
    exact ih h.2
/-- just a kind's ends have a way, in one of the three positions -/
theorem way_some (k i : Int) : (wayOk k i 0 || wayOk k i 1 || wayOk k i 2) = (decide (0 ≤ i) && decide (i < endsM k)) := by
  rw [Bool.eq_iff_iff]
  rcases kind_cases k with rfl | rfl | rfl | hk
  · simp [wayOk, waysM, wayOkL, farOk, opn, endsM]; omega
  · simp [wayOk, waysM, wayOkL, farOk, opn, endsM]; omega
  · simp [wayOk, waysM, wayOkL, farOk, opn, endsM]; omega
  · simp [wayOk, ways_none hk, wayOkL, endsM, hk]
theorem way_blind (k i p q : Int) (h : k ≠ 1) : wayOk k i p = wayOk k i q ∧ wayOut k i p = wayOut k i q := by
  rcases kind_cases k with rfl | rfl | rfl | hk
  · simp [wayOk, wayOut, waysM, wayOkL, wayOutL, farOk, farOut, opn]
  · exact absurd rfl h
  · simp [wayOk, wayOut, waysM, wayOkL, wayOutL, farOk, farOut, opn]
  · simp [wayOk, wayOut, ways_none hk, wayOkL, wayOutL]
theorem ends_none {k : Int} : endsM k = 0 ↔ (k ≠ 0 ∧ k ≠ 1 ∧ k ≠ 2) := by
  unfold endsM
  split
  · omega
  · split
    · omega
    · split <;> omega
theorem ends_bd (k : Int) : 0 ≤ endsM k ∧ endsM k ≤ 4 := by
  unfold endsM
  split
  · omega
  · split
    · omega
    · split <;> omega

/-- what meets an end: of the first joint that has it -/
def jA (j : Jo) (s e : Int) : Bool := decide (j.a = s) && decide (j.ae = e)
def jB (j : Jo) (s e : Int) : Bool := decide (j.b = s) && decide (j.be = e)
def nextOk : List Jo → Int → Int → Bool
  | [], _, _ => false
  | j :: r, s, e => (jA j s e || jB j s e) || nextOk r s e
def nextS : List Jo → Int → Int → Int
  | [], _, _ => 0
  | j :: r, s, e => if jA j s e = true then j.b else if jB j s e = true then j.a else nextS r s e
def nextE : List Jo → Int → Int → Int
  | [], _, _ => 0
  | j :: r, s, e => if jA j s e = true then j.be else if jB j s e = true then j.ae else nextE r s e
end Go.Proofs.Ytbjbkaphigolnaa

namespace Go.Proofs.Ytbjbkaphigolnaa
open Go.RowKit

/-- the cells of a way -/
def Wy.cells (v : Wy) : List Value := [.int .i64 v.a, .int .i64 v.b, .int .i64 v.pos]
def cellsW (l : List Wy) : List Value := l.flatMap Wy.cells

theorem from_any (v : Wy) (i : Int) (w : World) : Calls Try.prog 32 #[.agg #[.int .i64 v.a, .int .i64 v.b, .int .i64 v.pos], .int .i64 i] w fun e w' => e = .returned (.tuple #[.int .i64 (farOut v i), .bool (farOk v i)]) ∧ Fr (fun _ => False) w w' := by
  obtain ⟨a, b, p⟩ := v
  by_cases h1 : i = a
  · rw [show farOut ⟨a, b, p⟩ i = b from if_pos h1, show farOk ⟨a, b, p⟩ i = true by simp [farOk, h1]]
    have e1 : (i == a) = true := by simp [h1]
    clear h1
    go_enter Try.func32, Try.ntmps32
    go_wp2
    go_ret2
    exact ⟨rfl, (Fr.refl _ _).alloc _⟩
  · have e1 : (i == a) = false := by simp [h1]
    by_cases h2 : i = b
    · rw [show farOut ⟨a, b, p⟩ i = a by simp [farOut, h2], show farOk ⟨a, b, p⟩ i = true by simp [farOk, h2]]
      have e2 : (i == b) = true := by simp [h2]
      clear h1 h2
      go_enter Try.func32, Try.ntmps32
      go_wp2
      go_ret2
      exact ⟨rfl, (Fr.refl _ _).alloc _⟩
    · rw [show farOut ⟨a, b, p⟩ i = 0 by simp [farOut, h1, h2], show farOk ⟨a, b, p⟩ i = false by simp [farOk, h1, h2]]
      have e2 : (i == b) = false := by simp [h2]
      clear h1 h2
      go_enter Try.func32, Try.ntmps32
      go_wp2
      go_ret2
      exact ⟨rfl, (Fr.refl _ _).alloc _⟩

theorem lit_rd (w : World) (cs : List Value) (t : TypeId) : Rd (w.alloc (.cells cs.toArray t)) (some ⟨w.heap.size, 0, none⟩) cs := fun _ =>
  ⟨w.heap.size, 0, rfl, by simp, fun j u hu => by
    rw [World.cell?_alloc_at _ _ _ _ rfl, Nat.zero_add]
    simpa using hu⟩

/-- the ways of a kind, as they lie -/
def SomeWays (P : Nat → Nat → Prop) (w : World) (l : List Wy) (e : Ending) (w' : World) : Prop := ∃ A c, e = .returned (.slice A l.length c) ∧ Rd w' A (cellsW l) ∧ P l.length c ∧ Fr (fun _ => False) w w'
theorem ways_any (k : Int) (w : World) : Calls Try.prog 31 #[.int .i64 k] w (SomeWays (· ≤ ·) w (waysM k)) := by
  rcases kind_cases k with rfl | rfl | rfl | hk
  · go_enter Try.func31, Try.ntmps31
    go_wp2
    go_ret
    exact ⟨_, _, rfl, lit_rd _ _ _, Nat.le_refl _, (Fr.refl _ _).alloc _⟩
  · go_enter Try.func31, Try.ntmps31
    go_wp2
    go_ret
    exact ⟨_, _, rfl, lit_rd _ _ _, Nat.le_refl _, (Fr.refl _ _).alloc _⟩
  · go_enter Try.func31, Try.ntmps31
    go_wp2
    go_ret
    exact ⟨_, _, rfl, lit_rd _ _ _, Nat.le_refl _, (Fr.refl _ _).alloc _⟩
  · rw [ways_none hk]
    have e0 : (k == 0) = false := by simp [hk]
    have e1 : (k == 1) = false := by simp [hk]
    have e2 : (k == 2) = false := by simp [hk]
    clear hk
    go_enter Try.func31, Try.ntmps31
    go_wp2
    go_ret
    exact ⟨_, _, rfl, fun h => by simp [cellsW] at h, Nat.le_refl _, Fr.refl _ _⟩
end Go.Proofs.Ytbjbkaphigolnaa

namespace Go.Proofs.Ytbjbkaphigolnaa
open Go.RowKit

theorem cellsW_at {l : List Wy} {j : Nat} (h : j < l.length) : (cellsW l)[j * 3]? = some (.int .i64 l[j].a) ∧ (cellsW l)[j * 3 + 1]? = some (.int .i64 l[j].b) ∧ (cellsW l)[j * 3 + 2]? = some (.int .i64 l[j].pos) := by
  induction l generalizing j with
  | nil => simp at h
  | cons v r ih =>
    have e : cellsW (v :: r) = [.int .i64 v.a, .int .i64 v.b, .int .i64 v.pos] ++ cellsW r := rfl
    rcases j with _ | j
    · rw [e]; simp
    · have := ih (j := j) (by simpa using h)
      rw [e, show (j + 1) * 3 = 3 + j * 3 by omega, show 3 + j * 3 + 1 = 3 + (j * 3 + 1) by omega, show 3 + j * 3 + 2 = 3 + (j * 3 + 2) by omega]
      rw [List.getElem?_append_right (by simp), List.getElem?_append_right (by simp), List.getElem?_append_right (by simp)]
      simpa using this
theorem rd_ways {w : World} {A : Option Addr} {l : List Wy} (h : Rd w A (cellsW l)) {j : Nat} (hj : j < l.length) : ∃ g o, A = some ⟨g, o, none⟩ ∧ w.cell? ⟨g, o + j * 3, none⟩ = some (.int .i64 l[j].a) ∧ w.cell? ⟨g, o + j * 3 + 1, none⟩ = some (.int .i64 l[j].b) ∧ w.cell? ⟨g, o + j * 3 + 2, none⟩ = some (.int .i64 l[j].pos) := by
  obtain ⟨h0, h1, h2⟩ := cellsW_at hj
  obtain ⟨g, o, rfl, _, hc⟩ := h (by have := (List.getElem?_eq_some_iff.1 h0).1; omega)
  exact ⟨g, o, rfl, hc _ _ h0, hc _ _ h1, hc _ _ h2⟩
theorem ways_short (k : Int) : (waysM k).length ≤ 2 := by
  unfold waysM
  split
  · simp
  · split
    · simp
    · split <;> simp

theorem fr_nil {w w1 w2 : World} (f1 : Fr (fun _ => False) w w1) (f2 : Fr (fun _ => False) w1 w2) : Fr (fun _ => False) w w2 := f1.trans f2 fun _ _ h => h

set_option maxHeartbeats 1000000 in
theorem pos_any (k i p : Int) (w : World) : Calls Try.prog 27 #[.int .i64 k, .int .i64 i, .int .i64 p] w fun e w' => e = .returned (.tuple #[.int .i64 (posOut k i p), .bool (posOk k i p)]) ∧ Fr (fun _ => False) w w' := by
  unfold posOut posOk
  have KW := ways_any k
  have hs := ways_short k
  generalize waysM k = l at *
  generalize hO : posOutL l i p = O
  generalize hK : posOkL l i p = K
  have HO := Lib.hid hO
  have HK := Lib.hid hK
  clear hO hK
  go_enter Try.func27, Try.ntmps27
  go_wp2_with fail
  refine (KW _).mono ?_
  clear KW
  rintro e w1 ⟨A, c, rfl, hr, hc, f1⟩
  go_wp2_with fail
  go_loopw [15] (fun t wr => ∃ j : Nat, j ≤ l.length ∧ t = .int .i64 (j : Nat) ∧ posOutL (l.drop j) i p = O ∧ posOkL (l.drop j) i p = K ∧ Fr (fun _ => False) w1 wr) (fun t _ => l.length - (intOf t).toNat)
  case atStart => exact ⟨0, Nat.zero_le _, rfl, HO.out, HK.out, Fr.refl _ _⟩
  case round =>
    obtain ⟨j, hj, rfl, hO, hK, fr⟩ := hrel
    by_cases hlt : j < l.length
    · obtain ⟨g, o, rfl, c0, c1, c2⟩ := rd_ways (hr.fr fr fun _ _ => id) hlt
      rw [List.drop_eq_getElem_cons hlt, posOutL] at hO
      rw [List.drop_eq_getElem_cons hlt, posOkL] at hK
      generalize l[j] = v at *
      have HF := fun w => from_any v i w
      generalize hfo : farOut v i = fo at *
      have HFO := Lib.hid hfo
      clear hfo hr
      cases hf : farOk v i
      · rw [hf] at hO hK HF
        have hO' : posOutL (l.drop (j + 1)) i p = O := by simpa using hO
        have hK' : posOkL (l.drop (j + 1)) i p = K := by simpa using hK
        have HO1 := Lib.hid hO'
        have HK1 := Lib.hid hK'
        clear hO hK hO' hK' hf
        go_wp2_with fail
        refine (HF _).mono ?_
        clear HF
        rintro e w3 ⟨rfl, f3⟩
        go_wp2_with fail
        go_roundw
        case rel => exact ⟨j + 1, by omega, by go_num, HO1.out, HK1.out, fr_nil ((fr.alloc _)) f3⟩
        case measure => simp [intOf]; omega
      · rw [hf] at hO hK HF
        by_cases hp : fo = p
        · subst hp
          have hO' : v.pos = O := by simpa using hO
          have hK' : true = K := by simpa using hK
          subst hO' hK'
          have e1 : (fo == fo) = true := by simp
          clear hO hK hf HO HK
          go_wp2_with fail
          refine (HF _).mono ?_
          clear HF
          rintro e w3 ⟨rfl, f3⟩
          have g1 := fr_nil (fr.alloc (.cells #[.int .i64 v.a, .int .i64 v.b, .int .i64 v.pos] 83)) f3
          have k2 := f3.cell (p := ⟨wr.heap.size, 2, none⟩) (by simp) id
          simp [World.cell?_alloc_at] at k2
          clear f3
          have g2 := fr_nil f1 g1
          clear g1
          go_wp2_with fail
          go_ret2
          exact ⟨rfl, g2⟩
        · have hO' : posOutL (l.drop (j + 1)) i p = O := by simpa [hp] using hO
          have hK' : posOkL (l.drop (j + 1)) i p = K := by simpa [hp] using hK
          have HO1 := Lib.hid hO'
          have HK1 := Lib.hid hK'
          have e1 : (fo == p) = false := by simp [hp]
          clear hO hK hO' hK' hf hp
          go_wp2_with fail
          refine (HF _).mono ?_
          clear HF
          rintro e w3 ⟨rfl, f3⟩
          go_wp2_with fail
          go_roundw
          case rel => exact ⟨j + 1, by omega, by go_num, HO1.out, HK1.out, fr_nil (fr.alloc _) f3⟩
          case measure => simp [intOf]; omega
    · have hjl : j = l.length := by omega
      subst hjl
      rw [List.drop_length] at hO hK
      have hO' : 0 = O := hO
      have hK' : false = K := hK
      subst hO' hK'
      clear hO hK HO HK
      go_wp2_with fail
      go_ret2
      exact ⟨rfl, fr_nil f1 fr⟩
end Go.Proofs.Ytbjbkaphigolnaa

namespace Go.Proofs.Ytbjbkaphigolnaa
open Go.RowKit

def cellsS (l : List Sec) : List Value := l.flatMap fun s => [.int .i64 s.kind, .int .i64 s.oc, .int .i64 s.line]
def cellsJ (l : List Jo) : List Value := l.flatMap fun j => [.int .i64 j.a, .int .i64 j.ae, .int .i64 j.b, .int .i64 j.be]
theorem cellsS_length (l : List Sec) : (cellsS l).length = l.length * 3 := by
  induction l with
  | nil => rfl
  | cons v r ih =>
    have e : cellsS (v :: r) = [.int .i64 v.kind, .int .i64 v.oc, .int .i64 v.line] ++ cellsS r := rfl
    rw [e, List.length_append, ih, List.length_cons]
    simp
    omega
theorem cellsJ_length (l : List Jo) : (cellsJ l).length = l.length * 4 := by
  induction l with
  | nil => rfl
  | cons v r ih =>
    have e : cellsJ (v :: r) = [.int .i64 v.a, .int .i64 v.ae, .int .i64 v.b, .int .i64 v.be] ++ cellsJ r := rfl
    rw [e, List.length_append, ih, List.length_cons]
    simp
    omega
theorem cellsS_at {l : List Sec} {j : Nat} (h : j < l.length) : (cellsS l)[j * 3]? = some (.int .i64 l[j].kind) ∧ (cellsS l)[j * 3 + 1]? = some (.int .i64 l[j].oc) ∧ (cellsS l)[j * 3 + 2]? = some (.int .i64 l[j].line) := by
  induction l generalizing j with
  | nil => simp at h
  | cons v r ih =>
    have e : cellsS (v :: r) = [.int .i64 v.kind, .int .i64 v.oc, .int .i64 v.line] ++ cellsS r := rfl
    rcases j with _ | j
    · rw [e]; simp
    · have := ih (j := j) (by simpa using h)
      rw [e, show (j + 1) * 3 = 3 + j * 3 by omega, show 3 + j * 3 + 1 = 3 + (j * 3 + 1) by omega, show 3 + j * 3 + 2 = 3 + (j * 3 + 2) by omega]
      rw [List.getElem?_append_right (by simp), List.getElem?_append_right (by simp), List.getElem?_append_right (by simp)]
      simpa using this
theorem cellsJ_at {l : List Jo} {j : Nat} (h : j < l.length) : (cellsJ l)[j * 4]? = some (.int .i64 l[j].a) ∧ (cellsJ l)[j * 4 + 1]? = some (.int .i64 l[j].ae) ∧ (cellsJ l)[j * 4 + 2]? = some (.int .i64 l[j].b) ∧ (cellsJ l)[j * 4 + 3]? = some (.int .i64 l[j].be) := by
  induction l generalizing j with
  | nil => simp at h
  | cons v r ih =>
    have e : cellsJ (v :: r) = [.int .i64 v.a, .int .i64 v.ae, .int .i64 v.b, .int .i64 v.be] ++ cellsJ r := rfl
    rcases j with _ | j
    · rw [e]; simp
    · have := ih (j := j) (by simpa using h)
      rw [e, show (j + 1) * 4 = 4 + j * 4 by omega, show 4 + j * 4 + 1 = 4 + (j * 4 + 1) by omega, show 4 + j * 4 + 2 = 4 + (j * 4 + 2) by omega, show 4 + j * 4 + 3 = 4 + (j * 4 + 3) by omega]
      rw [List.getElem?_append_right (by simp), List.getElem?_append_right (by simp), List.getElem?_append_right (by simp), List.getElem?_append_right (by simp)]
      simpa using this
theorem rd_sec {w : World} {A : Option Addr} {l : List Sec} (h : Rd w A (cellsS l)) {j : Nat} (hj : j < l.length) : ∃ g o, A = some ⟨g, o, none⟩ ∧ w.cell? ⟨g, o + j * 3, none⟩ = some (.int .i64 l[j].kind) ∧ w.cell? ⟨g, o + j * 3 + 1, none⟩ = some (.int .i64 l[j].oc) ∧ w.cell? ⟨g, o + j * 3 + 2, none⟩ = some (.int .i64 l[j].line) := by
  obtain ⟨h0, h1, h2⟩ := cellsS_at hj
  obtain ⟨g, o, rfl, _, hc⟩ := h (by have := (List.getElem?_eq_some_iff.1 h0).1; omega)
  exact ⟨g, o, rfl, hc _ _ h0, hc _ _ h1, hc _ _ h2⟩
theorem rd_jo {w : World} {A : Option Addr} {l : List Jo} (h : Rd w A (cellsJ l)) {j : Nat} (hj : j < l.length) : ∃ g o, A = some ⟨g, o, none⟩ ∧ w.cell? ⟨g, o + j * 4, none⟩ = some (.int .i64 l[j].a) ∧ w.cell? ⟨g, o + j * 4 + 1, none⟩ = some (.int .i64 l[j].ae) ∧ w.cell? ⟨g, o + j * 4 + 2, none⟩ = some (.int .i64 l[j].b) ∧ w.cell? ⟨g, o + j * 4 + 3, none⟩ = some (.int .i64 l[j].be) := by
  obtain ⟨h0, h1, h2, h3⟩ := cellsJ_at hj
  obtain ⟨g, o, rfl, _, hc⟩ := h (by have := (List.getElem?_eq_some_iff.1 h0).1; omega)
  exact ⟨g, o, rfl, hc _ _ h0, hc _ _ h1, hc _ _ h2, hc _ _ h3⟩

theorem two_tests (a s b e : Int) : ((a == s) = true ∧ (b == e) = true ∧ (decide (a = s) && decide (b = e)) = true) ∨ ((a == s) = false ∧ (decide (a = s) && decide (b = e)) = false) ∨ ((a == s) = true ∧ (b == e) = false ∧ (decide (a = s) && decide (b = e)) = false) := by
  by_cases h1 : a = s <;> by_cases h2 : b = e <;> simp [h1, h2]

end Go.Proofs.Ytbjbkaphigolnaa

namespace Go.Proofs.Ytbjbkaphigolnaa
open Go.RowKit

theorem rways_any (k : Int) (w : World) : Calls Try.prog 28 #[.int .i64 k] w (SomeWays (· ≤ ·) w (waysM k)) := by
  rcases kind_cases k with rfl | rfl | rfl | hk
  · go_enter Try.func28, Try.ntmps28
    go_wp2
    go_ret
    exact ⟨_, _, rfl, lit_rd _ _ _, Nat.le_refl _, (Fr.refl _ _).alloc _⟩
  · go_enter Try.func28, Try.ntmps28
    go_wp2
    go_ret
    exact ⟨_, _, rfl, lit_rd _ _ _, Nat.le_refl _, (Fr.refl _ _).alloc _⟩
  · go_enter Try.func28, Try.ntmps28
    go_wp2
    go_ret
    exact ⟨_, _, rfl, lit_rd _ _ _, Nat.le_refl _, (Fr.refl _ _).alloc _⟩
  · rw [ways_none hk]
    have e0 : (k == 0) = false := by simp [hk]
    have e1 : (k == 1) = false := by simp [hk]
    have e2 : (k == 2) = false := by simp [hk]
    clear hk
    go_enter Try.func28, Try.ntmps28
    go_wp2
    go_ret
    exact ⟨_, _, rfl, fun h => by simp [cellsW] at h, Nat.le_refl _, Fr.refl _ _⟩

/-- the greatest end of a list of ways, and one -/
def topL : List Wy → Int → Int
  | [], n => n
  | v :: r, n => topL r (max (max n (v.a + 1)) (v.b + 1))
theorem topL_ends (k : Int) : topL (waysM k) 0 = endsM k := by
  rcases kind_cases k with rfl | rfl | rfl | hk
  · decide
  · decide
  · decide
  · rw [ways_none hk, ends_none.2 hk]
    rfl
theorem way_lo {k : Int} {v : Wy} (h : v ∈ waysM k) : 0 ≤ v.a ∧ v.a ≤ 3 ∧ 0 ≤ v.b ∧ v.b ≤ 3 ∧ v.a ≠ v.b := by
  rcases kind_cases k with rfl | rfl | rfl | hk
  · have : v = ⟨0, 1, 0⟩ := by simpa [waysM] using h
    subst this; simp
  · have : v = ⟨0, 1, 1⟩ ∨ v = ⟨0, 2, 2⟩ := by simpa [waysM] using h
    rcases this with rfl | rfl <;> simp
  · have : v = ⟨0, 1, 0⟩ ∨ v = ⟨2, 3, 0⟩ := by simpa [waysM] using h
    rcases this with rfl | rfl <;> simp
  · rw [ways_none hk] at h
    simp at h

end Go.Proofs.Ytbjbkaphigolnaa

namespace Go.Proofs.Ytbjbkaphigolnaa
open Go.RowKit

theorem pos_tests (v : Wy) (i o : Int) (h : v.a ≠ v.b) : (farOk v i && decide (farOut v i = o)) = ((decide (v.a = i) && decide (v.b = o)) || (decide (v.b = i) && decide (v.a = o))) := by
  unfold farOk farOut
  rw [Bool.eq_iff_iff]
  by_cases h1 : i = v.a
  · have : v.b ≠ i := fun e => h (by omega)
    simp [h1]
    omega
  · by_cases h2 : i = v.b
    · have : v.a ≠ i := fun e => h (by omega)
      simp [h2]
      omega
    · simp [h1, h2]
      omega

set_option maxHeartbeats 2000000 in
theorem rpos_any (k i p : Int) (w : World) : Calls Try.prog 24 #[.int .i64 k, .int .i64 i, .int .i64 p] w fun e w' => e = .returned (.tuple #[.int .i64 (posOut k i p), .bool (posOk k i p)]) ∧ Fr (fun _ => False) w w' := by
  unfold posOut posOk
  have KW := rways_any k
  have hs := ways_short k
  have hlo := fun v h => (way_lo (k := k) (v := v) h).2.2.2.2
  generalize waysM k = l at *
  generalize hO : posOutL l i p = O
  generalize hK : posOkL l i p = K
  have HO := Lib.hid hO
  have HK := Lib.hid hK
  have HLO := Lib.hid hlo
  clear hO hK hlo
  go_enter Try.func24, Try.ntmps24
  go_wp2_with fail
  refine (KW _).mono ?_
  clear KW
  rintro e w1 ⟨A, c, rfl, hr, hc, f1⟩
  go_wp2_with fail
  go_loopw [13] (fun t wr => ∃ j : Nat, j ≤ l.length ∧ t = .int .i64 (j : Nat) ∧ posOutL (l.drop j) i p = O ∧ posOkL (l.drop j) i p = K ∧ Fr (fun _ => False) w1 wr) (fun t _ => l.length - (intOf t).toNat)
  case atStart => exact ⟨0, Nat.zero_le _, rfl, HO.out, HK.out, Fr.refl _ _⟩
  case round =>
    clear HO HK
    obtain ⟨j, hj, rfl, hO, hK, fr⟩ := hrel
    by_cases hlt : j < l.length
    · obtain ⟨g, o, rfl, c0, c1, c2⟩ := rd_ways (hr.fr fr fun _ _ => id) hlt
      have hne := HLO.out l[j] (List.getElem_mem hlt)
      rw [List.drop_eq_getElem_cons hlt, posOutL, pos_tests _ _ _ hne] at hO
      rw [List.drop_eq_getElem_cons hlt, posOkL, pos_tests _ _ _ hne] at hK
      generalize l[j] = v at *
      have hA := two_tests v.a i v.b p
      have hB := two_tests v.b i v.a p
      generalize (decide (v.a = i) && decide (v.b = p)) = x at *
      generalize (decide (v.b = i) && decide (v.a = p)) = y at *
      obtain ⟨va, vb, vp⟩ := v
      simp only at *
      clear hr hne
      rcases hA with ⟨a1, a2, rfl⟩ | ⟨a1, rfl⟩ | ⟨a1, a2, rfl⟩
      · simp at hO hK
        subst hO hK
        clear hB
        go_wp2_with fail
        go_ret2
        exact ⟨rfl, fr_nil f1 (fr.alloc _)⟩
      all_goals
        rcases hB with ⟨b1, b2, rfl⟩ | ⟨b1, rfl⟩ | ⟨b1, b2, rfl⟩
        · simp at hO hK
          subst hO hK
          go_wp2_with fail
          go_ret2
          exact ⟨rfl, fr_nil f1 (fr.alloc _)⟩
        all_goals
          simp at hO hK
          have HO := Lib.hid hO
          have HK := Lib.hid hK
          clear hO hK
          go_wp2_with fail
          go_roundw
          case rel => exact ⟨j + 1, by omega, by go_num, HO.out, HK.out, fr.alloc _⟩
          case measure => simp [intOf]; omega
    · have hjl : j = l.length := by omega
      subst hjl
      rw [List.drop_length] at hO hK
      have hO' : 0 = O := hO
      have hK' : false = K := hK
      subst hO' hK'
      clear hO hK
      go_wp2_with fail
      go_ret2
      exact ⟨rfl, fr_nil f1 fr⟩

end Go.Proofs.Ytbjbkaphigolnaa

namespace Go.Proofs.Ytbjbkaphigolnaa
open Go.RowKit

def cellsT (l : List St) : List Value := l.flatMap fun s => [.int .i64 s.sec, .int .i64 s.inn, .int .i64 s.out]
theorem cellsT_length (l : List St) : (cellsT l).length = l.length * 3 := by
  induction l with
  | nil => rfl
  | cons v r ih =>
    have e : cellsT (v :: r) = [.int .i64 v.sec, .int .i64 v.inn, .int .i64 v.out] ++ cellsT r := rfl
    rw [e, List.length_append, ih, List.length_cons]
    simp
    omega
theorem cellsT_snoc (l : List St) (v : St) : cellsT (l ++ [v]) = cellsT l ++ [.int .i64 v.sec, .int .i64 v.inn, .int .i64 v.out] := by
  unfold cellsT
  rw [List.flatMap_append]
  rfl
end Go.Proofs.Ytbjbkaphigolnaa

namespace Go.Proofs.Ytbjbkaphigolnaa
open Go.RowKit

theorem cellsT_at {l : List St} {j : Nat} (h : j < l.length) : (cellsT l)[j * 3]? = some (.int .i64 l[j].sec) ∧ (cellsT l)[j * 3 + 1]? = some (.int .i64 l[j].inn) ∧ (cellsT l)[j * 3 + 2]? = some (.int .i64 l[j].out) := by
  induction l generalizing j with
  | nil => simp at h
  | cons v r ih =>
    have e : cellsT (v :: r) = [.int .i64 v.sec, .int .i64 v.inn, .int .i64 v.out] ++ cellsT r := rfl
    rcases j with _ | j
    · rw [e]; simp
    · have := ih (j := j) (by simpa using h)
      rw [e, show (j + 1) * 3 = 3 + j * 3 by omega, show 3 + j * 3 + 1 = 3 + (j * 3 + 1) by omega, show 3 + j * 3 + 2 = 3 + (j * 3 + 2) by omega]
      rw [List.getElem?_append_right (by simp), List.getElem?_append_right (by simp), List.getElem?_append_right (by simp)]
      simpa using this
theorem rd_st {w : World} {A : Option Addr} {l : List St} (h : Rd w A (cellsT l)) {j : Nat} (hj : j < l.length) : ∃ g o, A = some ⟨g, o, none⟩ ∧ w.cell? ⟨g, o + j * 3, none⟩ = some (.int .i64 l[j].sec) ∧ w.cell? ⟨g, o + j * 3 + 1, none⟩ = some (.int .i64 l[j].inn) ∧ w.cell? ⟨g, o + j * 3 + 2, none⟩ = some (.int .i64 l[j].out) := by
  obtain ⟨h0, h1, h2⟩ := cellsT_at hj
  obtain ⟨g, o, rfl, _, hc⟩ := h (by have := (List.getElem?_eq_some_iff.1 h0).1; omega)
  exact ⟨g, o, rfl, hc _ _ h0, hc _ _ h1, hc _ _ h2⟩

end Go.Proofs.Ytbjbkaphigolnaa


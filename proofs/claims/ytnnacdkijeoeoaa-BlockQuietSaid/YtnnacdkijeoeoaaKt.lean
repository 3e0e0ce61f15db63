/- Contracts and plain mathematics of earlier stages: Track, Leaf, Ways, Next, Small, Go, Right, Joints. -/
import Derived.KernelRfl
import Derived.Test.YtnnacdkijeoeoaaKa
import Derived.Outline
import Derived.BigQuiet
import Derived.Deep.RegionHeld3
namespace Go.Proofs.Ytnnacdkijeoeoaa

structure Sec where
  kind : Int
  oc : Int
  line : Int
structure Jo where
  a : Int
  ae : Int
  b : Int
  be : Int
structure St where
  sec : Int
  inn : Int
  out : Int
instance : Inhabited Sec := ⟨⟨0, 0, 0⟩⟩
instance : Inhabited Jo := ⟨⟨0, 0, 0, 0⟩⟩
instance : Inhabited St := ⟨⟨0, 0, 0⟩⟩

/-- a way through a section: its two ends, its position -/
structure Wy where
  a : Int
  b : Int
  pos : Int
def waysM (k : Int) : List Wy := if k = 0 then [⟨0, 1, 0⟩] else if k = 1 then [⟨0, 1, 1⟩, ⟨0, 2, 2⟩] else if k = 2 then [⟨0, 1, 0⟩, ⟨2, 3, 0⟩] else []
def endsM (k : Int) : Int := if k = 0 then 2 else if k = 1 then 3 else if k = 2 then 4 else 0

/-- the other end of a way -/
def farOk (w : Wy) (i : Int) : Bool := decide (i = w.a) || decide (i = w.b)
def farOut (w : Wy) (i : Int) : Int := if i = w.a then w.b else if i = w.b then w.a else 0
def opn (w : Wy) (p : Int) : Bool := decide (w.pos = 0) || decide (w.pos = p)

def wayOkL : List Wy → Int → Int → Bool
  | [], _, _ => false
  | w :: r, i, p => (farOk w i && opn w p) || wayOkL r i p
def wayOutL : List Wy → Int → Int → Int
  | [], _, _ => 0
  | w :: r, i, p => if (farOk w i && opn w p) = true then farOut w i else wayOutL r i p
def posOkL : List Wy → Int → Int → Bool
  | [], _, _ => false
  | w :: r, i, o => (farOk w i && decide (farOut w i = o)) || posOkL r i o
def posOutL : List Wy → Int → Int → Int
  | [], _, _ => 0
  | w :: r, i, o => if (farOk w i && decide (farOut w i = o)) = true then w.pos else posOutL r i o
def wayOk (k i p : Int) : Bool := wayOkL (waysM k) i p
def wayOut (k i p : Int) : Int := wayOutL (waysM k) i p
def posOk (k i o : Int) : Bool := posOkL (waysM k) i o
def posOut (k i o : Int) : Int := posOutL (waysM k) i o

theorem kind_cases (k : Int) : k = 0 ∨ k = 1 ∨ k = 2 ∨ (k ≠ 0 ∧ k ≠ 1 ∧ k ≠ 2) := by omega
theorem ways_none {k : Int} (h : k ≠ 0 ∧ k ≠ 1 ∧ k ≠ 2) : waysM k = [] := by unfold waysM; rw [if_neg h.1, if_neg h.2.1, if_neg h.2.2]

theorem ends_none {k : Int} : endsM k = 0 ↔ (k ≠ 0 ∧ k ≠ 1 ∧ k ≠ 2) := by
  unfold endsM
  split
  · omega
  · split
    · omega
    · split <;> omega
theorem ends_bd (k : Int) : 0 ≤ endsM k ∧ endsM k ≤ 4 := by
  unfold endsM
  split
  · omega
  · split
    · omega
    · split <;> omega

/-- what meets an end: of the first joint that has it -/
def jA (j : Jo) (s e : Int) : Bool := decide (j.a = s) && decide (j.ae = e)
def jB (j : Jo) (s e : Int) : Bool := decide (j.b = s) && decide (j.be = e)
def nextOk : List Jo → Int → Int → Bool
  | [], _, _ => false
  | j :: r, s, e => (jA j s e || jB j s e) || nextOk r s e
def nextS : List Jo → Int → Int → Int
  | [], _, _ => 0
  | j :: r, s, e => if jA j s e = true then j.b else if jB j s e = true then j.a else nextS r s e
def nextE : List Jo → Int → Int → Int
  | [], _, _ => 0
  | j :: r, s, e => if jA j s e = true then j.be else if jB j s e = true then j.ae else nextE r s e
end Go.Proofs.Ytnnacdkijeoeoaa

namespace Go.Proofs.Ytnnacdkijeoeoaa
open Go.RowKit

theorem ends_any (k : Int) (w : World) : Calls Try.prog 66 #[.int .i64 k] w fun e w' => e = .returned (.int .i64 (endsM k)) ∧ w = w' := by
  unfold endsM
  go_enter Try.func66, Try.ntmps66
  go_wp2
  all_goals go_ret
  all_goals simp_all

/-- the cells of a way -/
def Wy.cells (v : Wy) : List Value := [.int .i64 v.a, .int .i64 v.b, .int .i64 v.pos]
def cellsW (l : List Wy) : List Value := l.flatMap Wy.cells

theorem from_any (v : Wy) (i : Int) (w : World) : Calls Try.prog 89 #[.agg #[.int .i64 v.a, .int .i64 v.b, .int .i64 v.pos], .int .i64 i] w fun e w' => e = .returned (.tuple #[.int .i64 (farOut v i), .bool (farOk v i)]) ∧ Fr (fun _ => False) w w' := by
  obtain ⟨a, b, p⟩ := v
  by_cases h1 : i = a
  · rw [show farOut ⟨a, b, p⟩ i = b from if_pos h1, show farOk ⟨a, b, p⟩ i = true by simp [farOk, h1]]
    have e1 : (i == a) = true := by simp [h1]
    clear h1
    go_enter Try.func89, Try.ntmps89
    go_wp2
    go_ret2
    exact ⟨rfl, (Fr.refl _ _).alloc _⟩
  · have e1 : (i == a) = false := by simp [h1]
    by_cases h2 : i = b
    · rw [show farOut ⟨a, b, p⟩ i = a by simp [farOut, h2], show farOk ⟨a, b, p⟩ i = true by simp [farOk, h2]]
      have e2 : (i == b) = true := by simp [h2]
      clear h1 h2
      go_enter Try.func89, Try.ntmps89
      go_wp2
      go_ret2
      exact ⟨rfl, (Fr.refl _ _).alloc _⟩
    · rw [show farOut ⟨a, b, p⟩ i = 0 by simp [farOut, h1, h2], show farOk ⟨a, b, p⟩ i = false by simp [farOk, h1, h2]]
      have e2 : (i == b) = false := by simp [h2]
      clear h1 h2
      go_enter Try.func89, Try.ntmps89
      go_wp2
      go_ret2
      exact ⟨rfl, (Fr.refl _ _).alloc _⟩

theorem lit_rd (w : World) (cs : List Value) (t : TypeId) : Rd (w.alloc (.cells cs.toArray t)) (some ⟨w.heap.size, 0, none⟩) cs := fun _ =>
  ⟨w.heap.size, 0, rfl, by simp, fun j u hu => by
    rw [World.cell?_alloc_at _ _ _ _ rfl, Nat.zero_add]
    simpa using hu⟩

/-- the ways of a kind, as they lie -/
def SomeWays (P : Nat → Nat → Prop) (w : World) (l : List Wy) (e : Ending) (w' : World) : Prop := ∃ A c, e = .returned (.slice A l.length c) ∧ Rd w' A (cellsW l) ∧ P l.length c ∧ Fr (fun _ => False) w w'
theorem ways_any (k : Int) (w : World) : Calls Try.prog 88 #[.int .i64 k] w (SomeWays (· ≤ ·) w (waysM k)) := by
  rcases kind_cases k with rfl | rfl | rfl | hk
  · go_enter Try.func88, Try.ntmps88
    go_wp2
    go_ret
    exact ⟨_, _, rfl, lit_rd _ _ _, Nat.le_refl _, (Fr.refl _ _).alloc _⟩
  · go_enter Try.func88, Try.ntmps88
    go_wp2
    go_ret
    exact ⟨_, _, rfl, lit_rd _ _ _, Nat.le_refl _, (Fr.refl _ _).alloc _⟩
  · go_enter Try.func88, Try.ntmps88
    go_wp2
    go_ret
    exact ⟨_, _, rfl, lit_rd _ _ _, Nat.le_refl _, (Fr.refl _ _).alloc _⟩
  · rw [ways_none hk]
    have e0 : (k == 0) = false := by simp [hk]
    have e1 : (k == 1) = false := by simp [hk]
    have e2 : (k == 2) = false := by simp [hk]
    clear hk
    go_enter Try.func88, Try.ntmps88
    go_wp2
    go_ret
    exact ⟨_, _, rfl, fun h => by simp [cellsW] at h, Nat.le_refl _, Fr.refl _ _⟩
end Go.Proofs.Ytnnacdkijeoeoaa

namespace Go.Proofs.Ytnnacdkijeoeoaa
open Go.RowKit

theorem cellsW_at {l : List Wy} {j : Nat} (h : j < l.length) : (cellsW l)[j * 3]? = some (.int .i64 l[j].a) ∧ (cellsW l)[j * 3 + 1]? = some (.int .i64 l[j].b) ∧ (cellsW l)[j * 3 + 2]? = some (.int .i64 l[j].pos) := by
  induction l generalizing j with
  | nil => simp at h
  | cons v r ih =>
    have e : cellsW (v :: r) = [.int .i64 v.a, .int .i64 v.b, .int .i64 v.pos] ++ cellsW r := rfl
    rcases j with _ | j
    · rw [e]; simp
    · have := ih (j := j) (by simpa using h)
      rw [e, show (j + 1) * 3 = 3 + j * 3 by omega, show 3 + j * 3 + 1 = 3 + (j * 3 + 1) by omega, show 3 + j * 3 + 2 = 3 + (j * 3 + 2) by omega]
      rw [List.getElem?_append_right (by simp), List.getElem?_append_right (by simp), List.getElem?_append_right (by simp)]
      simpa using this
theorem rd_ways {w : World} {A : Option Addr} {l : List Wy} (h : Rd w A (cellsW l)) {j : Nat} (hj : j < l.length) : ∃ g o, A = some ⟨g, o, none⟩ ∧ w.cell? ⟨g, o + j * 3, none⟩ = some (.int .i64 l[j].a) ∧ w.cell? ⟨g, o + j * 3 + 1, none⟩ = some (.int .i64 l[j].b) ∧ w.cell? ⟨g, o + j * 3 + 2, none⟩ = some (.int .i64 l[j].pos) := by
  obtain ⟨h0, h1, h2⟩ := cellsW_at hj
  obtain ⟨g, o, rfl, _, hc⟩ := h (by have := (List.getElem?_eq_some_iff.1 h0).1; omega)
  exact ⟨g, o, rfl, hc _ _ h0, hc _ _ h1, hc _ _ h2⟩
theorem ways_short (k : Int) : (waysM k).length ≤ 2 := by
  unfold waysM
  split
  · simp
  · split
    · simp
    · split <;> simp

theorem fr_nil {w w1 w2 : World} (f1 : Fr (fun _ => False) w w1) (f2 : Fr (fun _ => False) w1 w2) : Fr (fun _ => False) w w2 := f1.trans f2 fun _ _ h => h

set_option maxHeartbeats 1000000 in
theorem pos_any (k i p : Int) (w : World) : Calls Try.prog 83 #[.int .i64 k, .int .i64 i, .int .i64 p] w fun e w' => e = .returned (.tuple #[.int .i64 (posOut k i p), .bool (posOk k i p)]) ∧ Fr (fun _ => False) w w' := by
  unfold posOut posOk
  have KW := ways_any k
  have hs := ways_short k
  generalize waysM k = l at *
  generalize hO : posOutL l i p = O
  generalize hK : posOkL l i p = K
  have HO := Lib.hid hO
  have HK := Lib.hid hK
  clear hO hK
  go_enter Try.func83, Try.ntmps83
  go_wp2_with fail
  refine (KW _).mono ?_
  clear KW
  rintro e w1 ⟨A, c, rfl, hr, hc, f1⟩
  go_wp2_with fail
  go_loopw [15] (fun t wr => ∃ j : Nat, j ≤ l.length ∧ t = .int .i64 (j : Nat) ∧ posOutL (l.drop j) i p = O ∧ posOkL (l.drop j) i p = K ∧ Fr (fun _ => False) w1 wr) (fun t _ => l.length - (intOf t).toNat)
  case atStart => exact ⟨0, Nat.zero_le _, rfl, HO.out, HK.out, Fr.refl _ _⟩
  case round =>
    obtain ⟨j, hj, rfl, hO, hK, fr⟩ := hrel
    by_cases hlt : j < l.length
    · obtain ⟨g, o, rfl, c0, c1, c2⟩ := rd_ways (hr.fr fr fun _ _ => id) hlt
      rw [List.drop_eq_getElem_cons hlt, posOutL] at hO
      rw [List.drop_eq_getElem_cons hlt, posOkL] at hK
      generalize l[j] = v at *
      have HF := fun w => from_any v i w
      generalize hfo : farOut v i = fo at *
      have HFO := Lib.hid hfo
      clear hfo hr
      cases hf : farOk v i
      · rw [hf] at hO hK HF
        have hO' : posOutL (l.drop (j + 1)) i p = O := by simpa using hO
        have hK' : posOkL (l.drop (j + 1)) i p = K := by simpa using hK
        have HO1 := Lib.hid hO'
        have HK1 := Lib.hid hK'
        clear hO hK hO' hK' hf
        go_wp2_with fail
        refine (HF _).mono ?_
        clear HF
        rintro e w3 ⟨rfl, f3⟩
        go_wp2_with fail
        go_roundw
        case rel => exact ⟨j + 1, by omega, by go_num, HO1.out, HK1.out, fr_nil ((fr.alloc _)) f3⟩
        case measure => simp [intOf]; omega
      · rw [hf] at hO hK HF
        by_cases hp : fo = p
        · subst hp
          have hO' : v.pos = O := by simpa using hO
          have hK' : true = K := by simpa using hK
          subst hO' hK'
          have e1 : (fo == fo) = true := by simp
          clear hO hK hf HO HK
          go_wp2_with fail
          refine (HF _).mono ?_
          clear HF
          rintro e w3 ⟨rfl, f3⟩
          have g1 := fr_nil (fr.alloc (.cells #[.int .i64 v.a, .int .i64 v.b, .int .i64 v.pos] 150)) f3
          have k2 := f3.cell (p := ⟨wr.heap.size, 2, none⟩) (by simp) id
          simp [World.cell?_alloc_at] at k2
          clear f3
          have g2 := fr_nil f1 g1
          clear g1
          go_wp2_with fail
          go_ret2
          exact ⟨rfl, g2⟩
        · have hO' : posOutL (l.drop (j + 1)) i p = O := by simpa [hp] using hO
          have hK' : posOkL (l.drop (j + 1)) i p = K := by simpa [hp] using hK
          have HO1 := Lib.hid hO'
          have HK1 := Lib.hid hK'
          have e1 : (fo == p) = false := by simp [hp]
          clear hO hK hO' hK' hf hp
          go_wp2_with fail
          refine (HF _).mono ?_
          clear HF
          rintro e w3 ⟨rfl, f3⟩
          go_wp2_with fail
          go_roundw
          case rel => exact ⟨j + 1, by omega, by go_num, HO1.out, HK1.out, fr_nil (fr.alloc _) f3⟩
          case measure => simp [intOf]; omega
    · have hjl : j = l.length := by omega
      subst hjl
      rw [List.drop_length] at hO hK
      have hO' : 0 = O := hO
      have hK' : false = K := hK
      subst hO' hK'
      clear hO hK HO HK
      go_wp2_with fail
      go_ret2
      exact ⟨rfl, fr_nil f1 fr⟩
end Go.Proofs.Ytnnacdkijeoeoaa

namespace Go.Proofs.Ytnnacdkijeoeoaa
open Go.RowKit

def cellsS (l : List Sec) : List Value := l.flatMap fun s => [.int .i64 s.kind, .int .i64 s.oc, .int .i64 s.line]
def cellsJ (l : List Jo) : List Value := l.flatMap fun j => [.int .i64 j.a, .int .i64 j.ae, .int .i64 j.b, .int .i64 j.be]
theorem cellsJ_length (l : List Jo) : (cellsJ l).length = l.length * 4 := by
  induction l with
  | nil => rfl
  | cons v r ih =>
    have e : cellsJ (v :: r) = [.int .i64 v.a, .int .i64 v.ae, .int .i64 v.b, .int .i64 v.be] ++ cellsJ r := rfl
    rw [e, List.length_append, ih, List.length_cons]
    simp
    omega
theorem cellsS_at {l : List Sec} {j : Nat} (h : j < l.length) : (cellsS l)[j * 3]? = some (.int .i64 l[j].kind) ∧ (cellsS l)[j * 3 + 1]? = some (.int .i64 l[j].oc) ∧ (cellsS l)[j * 3 + 2]? = some (.int .i64 l[j].line) := by
  induction l generalizing j with
  | nil => simp at h
  | cons v r ih =>
    have e : cellsS (v :: r) = [.int .i64 v.kind, .int .i64 v.oc, .int .i64 v.line] ++ cellsS r := rfl
    rcases j with _ | j
    · rw [e]; simp
    · have := ih (j := j) (by simpa using h)
      rw [e, show (j + 1) * 3 = 3 + j * 3 by omega, show 3 + j * 3 + 1 = 3 + (j * 3 + 1) by omega, show 3 + j * 3 + 2 = 3 + (j * 3 + 2) by omega]
      rw [List.getElem?_append_right (by simp), List.getElem?_append_right (by simp), List.getElem?_append_right (by simp)]
      simpa using this
theorem cellsJ_at {l : List Jo} {j : Nat} (h : j < l.length) : (cellsJ l)[j * 4]? = some (.int .i64 l[j].a) ∧ (cellsJ l)[j * 4 + 1]? = some (.int .i64 l[j].ae) ∧ (cellsJ l)[j * 4 + 2]? = some (.int .i64 l[j].b) ∧ (cellsJ l)[j * 4 + 3]? = some (.int .i64 l[j].be) := by
  induction l generalizing j with
  | nil => simp at h
  | cons v r ih =>
    have e : cellsJ (v :: r) = [.int .i64 v.a, .int .i64 v.ae, .int .i64 v.b, .int .i64 v.be] ++ cellsJ r := rfl
    rcases j with _ | j
    · rw [e]; simp
    · have := ih (j := j) (by simpa using h)
      rw [e, show (j + 1) * 4 = 4 + j * 4 by omega, show 4 + j * 4 + 1 = 4 + (j * 4 + 1) by omega, show 4 + j * 4 + 2 = 4 + (j * 4 + 2) by omega, show 4 + j * 4 + 3 = 4 + (j * 4 + 3) by omega]
      rw [List.getElem?_append_right (by simp), List.getElem?_append_right (by simp), List.getElem?_append_right (by simp), List.getElem?_append_right (by simp)]
      simpa using this
theorem rd_sec {w : World} {A : Option Addr} {l : List Sec} (h : Rd w A (cellsS l)) {j : Nat} (hj : j < l.length) : ∃ g o, A = some ⟨g, o, none⟩ ∧ w.cell? ⟨g, o + j * 3, none⟩ = some (.int .i64 l[j].kind) ∧ w.cell? ⟨g, o + j * 3 + 1, none⟩ = some (.int .i64 l[j].oc) ∧ w.cell? ⟨g, o + j * 3 + 2, none⟩ = some (.int .i64 l[j].line) := by
  obtain ⟨h0, h1, h2⟩ := cellsS_at hj
  obtain ⟨g, o, rfl, _, hc⟩ := h (by have := (List.getElem?_eq_some_iff.1 h0).1; omega)
  exact ⟨g, o, rfl, hc _ _ h0, hc _ _ h1, hc _ _ h2⟩
theorem rd_jo {w : World} {A : Option Addr} {l : List Jo} (h : Rd w A (cellsJ l)) {j : Nat} (hj : j < l.length) : ∃ g o, A = some ⟨g, o, none⟩ ∧ w.cell? ⟨g, o + j * 4, none⟩ = some (.int .i64 l[j].a) ∧ w.cell? ⟨g, o + j * 4 + 1, none⟩ = some (.int .i64 l[j].ae) ∧ w.cell? ⟨g, o + j * 4 + 2, none⟩ = some (.int .i64 l[j].b) ∧ w.cell? ⟨g, o + j * 4 + 3, none⟩ = some (.int .i64 l[j].be) := by
  obtain ⟨h0, h1, h2, h3⟩ := cellsJ_at hj
  obtain ⟨g, o, rfl, _, hc⟩ := h (by have := (List.getElem?_eq_some_iff.1 h0).1; omega)
  exact ⟨g, o, rfl, hc _ _ h0, hc _ _ h1, hc _ _ h2, hc _ _ h3⟩

theorem two_tests (a s b e : Int) : ((a == s) = true ∧ (b == e) = true ∧ (decide (a = s) && decide (b = e)) = true) ∨ ((a == s) = false ∧ (decide (a = s) && decide (b = e)) = false) ∨ ((a == s) = true ∧ (b == e) = false ∧ (decide (a = s) && decide (b = e)) = false) := by
  by_cases h1 : a = s <;> by_cases h2 : b = e <;> simp [h1, h2]

set_option maxHeartbeats 2000000 in
theorem next_any {A : Option Addr} {c : Nat} {l : List Jo} (s e : Int) (w : World) (hr : Rd w A (cellsJ l)) (hl : l.length ≤ 9223372036854775807) :
    Calls Try.prog 69 #[.slice A l.length c, .int .i64 s, .int .i64 e] w fun x w' => x = .returned (.tuple #[.int .i64 (nextS l s e), .int .i64 (nextE l s e), .bool (nextOk l s e)]) ∧ Fr (fun _ => False) w w' := by
  generalize hO : nextS l s e = S
  generalize hE : nextE l s e = E
  generalize hK : nextOk l s e = K
  have HO := Lib.hid hO
  have HE := Lib.hid hE
  have HK := Lib.hid hK
  clear hO hE hK
  go_enter Try.func69, Try.ntmps69
  go_wp2_with fail
  go_loopw [13] (fun t wr => ∃ j : Nat, j ≤ l.length ∧ t = .int .i64 (j : Nat) ∧ nextS (l.drop j) s e = S ∧ nextE (l.drop j) s e = E ∧ nextOk (l.drop j) s e = K ∧ Fr (fun _ => False) w wr) (fun t _ => l.length - (intOf t).toNat)
  case atStart => exact ⟨0, Nat.zero_le _, rfl, HO.out, HE.out, HK.out, Fr.refl _ _⟩
  case round =>
    clear HO HE HK
    obtain ⟨j, hj, rfl, hO, hE, hK, fr⟩ := hrel
    by_cases hlt : j < l.length
    · obtain ⟨g, o, rfl, c0, c1, c2, c3⟩ := rd_jo (hr.fr fr fun _ _ => id) hlt
      rw [List.drop_eq_getElem_cons hlt, nextS] at hO
      rw [List.drop_eq_getElem_cons hlt, nextE] at hE
      rw [List.drop_eq_getElem_cons hlt, nextOk] at hK
      unfold jA jB at hO hE hK
      generalize l[j] = v at *
      have hA := two_tests v.a s v.ae e
      have hB := two_tests v.b s v.be e
      generalize (decide (v.a = s) && decide (v.ae = e)) = x at *
      generalize (decide (v.b = s) && decide (v.be = e)) = y at *
      obtain ⟨va, vae, vb, vbe⟩ := v
      simp only at *
      rcases hA with ⟨a1, a2, rfl⟩ | ⟨a1, rfl⟩ | ⟨a1, a2, rfl⟩
      · simp only [if_true, Bool.true_or] at hO hE hK
        subst hO hE hK
        clear hB hr
        go_wp2_with fail
        go_quiet (fail)
        go_wp2_with fail
        go_ret3
        exact ⟨rfl, (fr.alloc _).drewN nq⟩
      all_goals
        simp only [Bool.false_or, Bool.false_eq_true, if_false] at hO hE hK
        rcases hB with ⟨b1, b2, rfl⟩ | ⟨b1, rfl⟩ | ⟨b1, b2, rfl⟩
        · simp only [if_true, Bool.true_or] at hO hE hK
          subst hO hE hK
          clear hr
          go_wp2_with fail
          go_quiet (fail)
          go_wp2_with fail
          go_ret3
          exact ⟨rfl, (fr.alloc _).drewN nq⟩
        all_goals
          simp only [Bool.false_or, Bool.false_eq_true, if_false] at hO hE hK
          have HO := Lib.hid hO
          have HE := Lib.hid hE
          have HK := Lib.hid hK
          clear hO hE hK hr
          go_wp2_with fail
          go_roundw
          case rel => exact ⟨j + 1, by omega, by go_num, HO.out, HE.out, HK.out, fr.alloc _⟩
          case measure => simp [intOf]; omega
    · have hjl : j = l.length := by omega
      subst hjl
      rw [List.drop_length] at hO hE hK
      have hO' : 0 = S := hO
      have hE' : 0 = E := hE
      have hK' : false = K := hK
      subst hO' hE' hK'
      clear hO hE hK
      go_wp2_with fail
      go_ret3
      exact ⟨rfl, fr⟩

end Go.Proofs.Ytnnacdkijeoeoaa

namespace Go.Proofs.Ytnnacdkijeoeoaa
open Go.RowKit

def isSecB (n : Nat) (s : Int) : Bool := decide (0 ≤ s) && decide (s < n)
def kindOf (l : List Sec) (s : Nat) : Int := (l.getD s default).kind
def isEndB (l : List Sec) (s e : Int) : Bool := isSecB l.length s && (decide (0 ≤ e) && decide (e < endsM (kindOf l s.toNat)))
def posAt (p : List Int) (s : Nat) : Int := p.getD s 0

theorem kindOf_at {l : List Sec} {s : Nat} (h : s < l.length) : kindOf l s = l[s].kind := by
  unfold kindOf
  rw [List.getD_eq_getElem?_getD, List.getElem?_eq_getElem h]
  rfl
theorem isSecB_true {n : Nat} {s : Int} (h : isSecB n s = true) : ∃ k : Nat, s = k ∧ k < n := by
  unfold isSecB at h
  simp at h
  exact ⟨s.toNat, by omega, by omega⟩
theorem isSecB_nat {n k : Nat} (h : k < n) : isSecB n k = true := by
  unfold isSecB
  simp [h]
theorem isSecB_false {n : Nat} {s : Int} (h : isSecB n s = false) : s < 0 ∨ (n : Int) ≤ s := by
  unfold isSecB at h
  simp at h
  omega

theorem issec_any {A : Option Addr} {c n : Nat} (s : Int) (w : World) : Calls Try.prog 82 #[.slice A n c, .int .i64 s] w fun e w' => e = .returned (.bool (isSecB n s)) ∧ w = w' := by
  unfold isSecB
  by_cases h1 : 0 ≤ s
  · rw [show decide (0 ≤ s) = true by simp [h1], Bool.true_and]
    by_cases h2 : s < n
    · rw [show decide (s < n) = true by simp [h2]]
      go_enter Try.func82, Try.ntmps82
      go_wp2
      go_ret
      exact ⟨rfl, rfl⟩
    · rw [show decide (s < n) = false by simp [h2]]
      have h3 : decide (s < n) = false := by simp [h2]
      clear h2
      go_enter Try.func82, Try.ntmps82
      go_wp2
      go_ret
      exact ⟨rfl, rfl⟩
  · rw [show decide (0 ≤ s) = false by simp [h1], Bool.false_and]
    have h3 : s < 0 := by omega
    clear h1
    go_enter Try.func82, Try.ntmps82
    go_wp2
    go_ret
    exact ⟨rfl, rfl⟩

set_option maxHeartbeats 1000000 in
theorem isend_any {A : Option Addr} {c : Nat} {l : List Sec} (s e : Int) (w : World) (hr : Rd w A (cellsS l)) :
    Calls Try.prog 67 #[.slice A l.length c, .int .i64 s, .int .i64 e] w fun x w' => x = .returned (.bool (isEndB l s e)) ∧ w = w' := by
  unfold isEndB
  have KS := fun w => issec_any (A := A) (c := c) (n := l.length) s w
  cases hs : isSecB l.length s
  · rw [Bool.false_and]
    rw [hs] at KS
    clear hs
    go_enter Try.func67, Try.ntmps67
    go_wp2_with fail
    refine (KS _).mono ?_
    rintro x w1 ⟨rfl, rfl⟩
    go_wp2
    go_ret
    exact ⟨rfl, rfl⟩
  · rw [Bool.true_and]
    rw [hs] at KS
    obtain ⟨k, rfl, hk⟩ := isSecB_true hs
    obtain ⟨g, o, rfl, c0, _, _⟩ := rd_sec hr hk
    rw [Int.toNat_natCast, kindOf_at hk]
    generalize l[k].kind = kd at *
    clear hs hr
    by_cases h1 : 0 ≤ e
    · rw [show decide (0 ≤ e) = true by simp [h1], Bool.true_and]
      have KE := fun w => ends_any kd w
      by_cases h2 : e < endsM kd
      · rw [show decide (e < endsM kd) = true by simp [h2]]
        generalize endsM kd = n at *
        go_enter Try.func67, Try.ntmps67
        go_wp2_with fail
        refine (KS _).mono ?_
        rintro x w1 ⟨rfl, rfl⟩
        go_wp2_with fail
        refine (KE _).mono ?_
        rintro x w1 ⟨rfl, rfl⟩
        go_wp2
        go_ret
        exact ⟨rfl, rfl⟩
      · rw [show decide (e < endsM kd) = false by simp [h2]]
        have h3 : decide (e < endsM kd) = false := by simp [h2]
        clear h2
        generalize endsM kd = n at *
        go_enter Try.func67, Try.ntmps67
        go_wp2_with fail
        refine (KS _).mono ?_
        rintro x w1 ⟨rfl, rfl⟩
        go_wp2_with fail
        refine (KE _).mono ?_
        rintro x w1 ⟨rfl, rfl⟩
        go_wp2
        go_ret
        exact ⟨rfl, rfl⟩
    · rw [show decide (0 ≤ e) = false by simp [h1], Bool.false_and]
      have h3 : e < 0 := by omega
      clear h1
      go_enter Try.func67, Try.ntmps67
      go_wp2_with fail
      refine (KS _).mono ?_
      rintro x w1 ⟨rfl, rfl⟩
      go_wp2
      go_ret
      exact ⟨rfl, rfl⟩

theorem stands_any {A : Option Addr} {c : Nat} {l : List Jo} (s e : Int) (w : World) (hr : Rd w A (cellsJ l)) (hl : l.length ≤ 9223372036854775807) :
    Calls Try.prog 68 #[.slice A l.length c, .int .i64 s, .int .i64 e] w fun x w' => x = .returned (.bool (nextOk l s e)) ∧ Fr (fun _ => False) w w' := by
  have K := next_any (c := c) s e w hr hl
  generalize nextS l s e = S at *
  generalize nextE l s e = E at *
  generalize nextOk l s e = O at *
  clear hr
  go_enter Try.func68, Try.ntmps68
  go_wp2_with fail
  refine K.mono ?_
  rintro x w1 ⟨rfl, f1⟩
  go_wp2
  go_ret
  exact ⟨rfl, f1⟩
end Go.Proofs.Ytnnacdkijeoeoaa

namespace Go.Proofs.Ytnnacdkijeoeoaa

def seenAt (seen : List Bool) (s : Nat) : Bool := seen.getD s false
def unseen (seen : List Bool) : Nat := (seen.filter fun b => !b).length
def followF : Nat → List Sec → List Jo → List Int → List Bool → Int → Int → List St
  | 0, _, _, _, _, _, _ => []
  | f + 1, l, js, p, seen, s, i =>
    if (isSecB l.length s && !seenAt seen s.toNat) = true then
      if wayOk (kindOf l s.toNat) i (posAt p s.toNat) = true then
        ⟨s, i, wayOut (kindOf l s.toNat) i (posAt p s.toNat)⟩ ::
          (if nextOk js s (wayOut (kindOf l s.toNat) i (posAt p s.toNat)) = true then
            followF f l js p (seen.set s.toNat true) (nextS js s (wayOut (kindOf l s.toNat) i (posAt p s.toNat))) (nextE js s (wayOut (kindOf l s.toNat) i (posAt p s.toNat)))
          else [])
      else [⟨s, i, -1⟩]
    else []
def followM (l : List Sec) (js : List Jo) (s i : Int) (p : List Int) : List St :=
  if isEndB l s i = true then followF (l.length + 1) l js p (List.replicate l.length false) s i else []

theorem unseen_new (n : Nat) : unseen (List.replicate n false) = n := by
  unfold unseen
  induction n with
  | zero => rfl
  | succ n ih => rw [List.replicate_succ, List.filter_cons]; simp
theorem unseen_le (seen : List Bool) : unseen seen ≤ seen.length := List.length_filter_le _ _
theorem unseen_set : ∀ (seen : List Bool) (k : Nat), k < seen.length → seenAt seen k = false → unseen (seen.set k true) + 1 = unseen seen
  | [], _, h, _ => by simp at h
  | b :: r, 0, _, hs => by
    have hb : b = false := hs
    subst hb
    simp [unseen]
  | b :: r, k + 1, h, hs => by
    have ih := unseen_set r k (by simpa using h) hs
    unfold unseen at ih ⊢
    rw [List.set_cons_succ, List.filter_cons, List.filter_cons]
    cases b <;> simp <;> omega
theorem seenAt_set (seen : List Bool) (k j : Nat) (h : k < seen.length) : seenAt (seen.set k true) j = (decide (k = j) || seenAt seen j) := by
  unfold seenAt
  rw [List.getD_eq_getElem?_getD, List.getD_eq_getElem?_getD, List.getElem?_set]
  by_cases e : k = j
  · subst e; simp [h]
  · simp [e]
theorem seenAt_get {seen : List Bool} {k : Nat} (h : k < seen.length) : seen[k]? = some (seenAt seen k) := by
  unfold seenAt
  rw [List.getD_eq_getElem?_getD, List.getElem?_eq_getElem h]
  rfl

section
variable {l : List Sec} {js : List Jo} {p : List Int} {seen : List Bool} {f : Nat} {s i : Int}
end
end Go.Proofs.Ytnnacdkijeoeoaa

namespace Go.Proofs.Ytnnacdkijeoeoaa
open Go.RowKit

def sizesB (l : List Sec) (js : List Jo) : Bool := decide (1 ≤ l.length) && decide (l.length ≤ 16) && decide (js.length ≤ 24)
def secOkB (s : Sec) : Bool := !(endsM s.kind == 0) && decide (0 ≤ s.oc) && decide (s.oc < 4) && decide (0 ≤ s.line) && decide (s.line ≤ 3)
def sectionsB : List Sec → Bool
  | [] => true
  | s :: r => secOkB s && sectionsB r
def joOkB (l : List Sec) (j : Jo) : Bool := !(j.a == j.b) && isEndB l j.a j.ae && isEndB l j.b j.be
def jointsB (l : List Sec) : List Jo → Bool
  | [] => true
  | j :: r => joOkB l j && (!nextOk r j.a j.ae && !nextOk r j.b j.be) && jointsB l r

theorem sizes_any {A1 A2 : Option Addr} {c1 c2 : Nat} (l : List Sec) (js : List Jo) (w : World) :
    Calls Try.prog 50 #[.slice A1 l.length c1, .slice A2 js.length c2] w fun e w' => e = .returned (.bool (sizesB l js)) ∧ w = w' := by
  unfold sizesB
  generalize l.length = n
  generalize js.length = m
  by_cases h1 : 1 ≤ n
  · rw [show decide (1 ≤ n) = true by simp [h1], Bool.true_and]
    by_cases h2 : n ≤ 16
    · rw [show decide (n ≤ 16) = true by simp [h2], Bool.true_and]
      by_cases h3 : m ≤ 24
      · rw [show decide (m ≤ 24) = true by simp [h3]]
        have e3 : decide ((m : Int) ≤ 24) = true := by simp; omega
        go_enter Try.func50, Try.ntmps50
        go_wp2
        go_ret
        exact ⟨rfl, rfl⟩
      · rw [show decide (m ≤ 24) = false by simp [h3]]
        have e3 : decide ((m : Int) ≤ 24) = false := by simp; omega
        clear h3
        go_enter Try.func50, Try.ntmps50
        go_wp2
        go_ret
        exact ⟨rfl, rfl⟩
    · rw [show decide (n ≤ 16) = false by simp [h2], Bool.false_and]
      have h4 : 16 < n := by omega
      clear h2
      go_enter Try.func50, Try.ntmps50
      go_wp2
      go_ret
      exact ⟨rfl, rfl⟩
  · rw [show decide (1 ≤ n) = false by simp; omega, Bool.false_and, Bool.false_and]
    have h4 : n < 1 := by omega
    clear h1
    go_enter Try.func50, Try.ntmps50
    go_wp2
    go_ret
    exact ⟨rfl, rfl⟩

theorem sec_tests (s : Sec) : (secOkB s = true ∧ (endsM s.kind == 0) = false ∧ 0 ≤ s.oc ∧ s.oc < 4 ∧ 0 ≤ s.line ∧ s.line ≤ 3) ∨
    (secOkB s = false ∧ (endsM s.kind == 0) = true) ∨ (secOkB s = false ∧ (endsM s.kind == 0) = false ∧ s.oc < 0) ∨ (secOkB s = false ∧ (endsM s.kind == 0) = false ∧ 0 ≤ s.oc ∧ 4 ≤ s.oc) ∨
    (secOkB s = false ∧ (endsM s.kind == 0) = false ∧ 0 ≤ s.oc ∧ s.oc < 4 ∧ s.line < 0) ∨ (secOkB s = false ∧ (endsM s.kind == 0) = false ∧ 0 ≤ s.oc ∧ s.oc < 4 ∧ 0 ≤ s.line ∧ 3 < s.line) := by
  unfold secOkB
  generalize (endsM s.kind == 0) = e
  cases e <;> simp <;> omega

set_option maxHeartbeats 2000000 in
theorem sections_any {A : Option Addr} {c : Nat} {l : List Sec} (w : World) (hr : Rd w A (cellsS l)) (hl : l.length ≤ 9223372036854775807) :
    Calls Try.prog 51 #[.slice A l.length c] w fun x w' => x = .returned (.bool (sectionsB l)) ∧ Fr (fun _ => False) w w' := by
  generalize hO : sectionsB l = O
  have HO := Lib.hid hO
  clear hO
  go_enter Try.func51, Try.ntmps51
  go_wp2_with fail
  go_loopw [7] (fun t wr => ∃ j : Nat, j ≤ l.length ∧ t = .int .i64 (j : Nat) ∧ sectionsB (l.drop j) = O ∧ Fr (fun _ => False) w wr) (fun t _ => l.length - (intOf t).toNat)
  case atStart => exact ⟨0, Nat.zero_le _, rfl, HO.out, Fr.refl _ _⟩
  case round =>
    clear HO
    obtain ⟨j, hj, rfl, hO, fr⟩ := hrel
    by_cases hlt : j < l.length
    · obtain ⟨g, o, rfl, c0, c1, c2⟩ := rd_sec (hr.fr fr fun _ _ => id) hlt
      rw [List.drop_eq_getElem_cons hlt, sectionsB] at hO
      generalize l[j] = v at *
      have ht := sec_tests v
      have KE := fun w => ends_any v.kind w
      generalize secOkB v = x at *
      obtain ⟨k, oc, ln⟩ := v
      simp only at *
      generalize endsM k = n at *
      clear hr
      rcases ht with ⟨rfl, h1, h2, h3, h4, h5⟩ | ⟨rfl, h1⟩ | ⟨rfl, h1, h2⟩ | ⟨rfl, h1, h2, h3⟩ | ⟨rfl, h1, h2, h3, h4⟩ | ⟨rfl, h1, h2, h3, h4, h5⟩
      · rw [Bool.true_and] at hO
        have HO := Lib.hid hO
        clear hO
        go_wp2_with fail
        refine (KE _).mono ?_
        clear KE
        rintro x w3 ⟨rfl, rfl⟩
        go_wp2_with fail
        go_roundw
        case rel => exact ⟨j + 1, by omega, by go_num, HO.out, fr.alloc _⟩
        case measure => simp [intOf]; omega
      all_goals
        rw [Bool.false_and] at hO
        subst hO
        go_wp2_with fail
        refine (KE _).mono ?_
        clear KE
        rintro x w3 ⟨rfl, rfl⟩
        go_wp2_with fail
        go_ret
        exact ⟨rfl, fr.alloc _⟩
    · have hjl : j = l.length := by omega
      subst hjl
      rw [List.drop_length] at hO
      have hO' : true = O := hO
      subst hO'
      clear hO
      go_wp2_with fail
      go_ret
      exact ⟨rfl, fr⟩

/-- the slice behind a place -/
theorem behind_slice {w : World} {A : Option Addr} {c : Nat} {js : List Jo} (h : Rd w A (cellsJ js)) (hc : js.length ≤ c) (i : Nat) (hi : i < js.length) (h63 : c ≤ 9223372036854775807) :
    ∃ A2 c2, (∀ W, (Instr.slice 23 (.slice A js.length c) (some (.int .i64 ((i : Int) + 1))) none none).run Try.prog W = .ok (.slice A2 (js.drop (i + 1)).length c2) W) ∧ Rd w A2 (cellsJ (js.drop (i + 1))) ∧ (js.drop (i + 1)).length ≤ c2 ∧ c2 ≤ 9223372036854775807 := by
  obtain ⟨g, o, rfl, hg, hcell⟩ := h (by rw [cellsJ_length]; omega)
  have hcut : cellsJ (js.drop (i + 1)) = (cellsJ js).drop ((i + 1) * 4) := by
    have e : cellsJ js = cellsJ (js.take (i + 1)) ++ cellsJ (js.drop (i + 1)) := by
      unfold cellsJ
      rw [← List.flatMap_append, List.take_append_drop]
    rw [e, List.drop_append_of_le_length (by rw [cellsJ_length, List.length_take]; omega), List.drop_of_length_le (l := cellsJ (js.take (i + 1))) (by rw [cellsJ_length, List.length_take]; omega), List.nil_append]
  rw [List.length_drop]
  by_cases hc1 : c = i + 1
  · subst hc1
    have hl : js.length = i + 1 := by omega
    refine ⟨some ⟨g, o, none⟩, 0, fun W => ?_, fun h0 => by rw [cellsJ_length, List.length_drop] at h0; omega, by omega, by omega⟩
    rw [hl, Nat.sub_self]
    have h0 : ¬ ((i : Int) + 1 < 0) := by omega
    have h2 : (((i : Int) + 1)).toNat = i + 1 := by omega
    go_simp
  · refine ⟨some ⟨g, o + (i + 1) * 4, none⟩, c - (i + 1), fun W => ?_, fun h0 => ⟨g, o + (i + 1) * 4, rfl, hg, fun j u hu => ?_⟩, by omega, by omega⟩
    · have h1 : ((i : Int) + 1) ≤ (js.length : Int) := by omega
      have h2 : ((js.length : Nat) : Int) ≤ (c : Int) := by omega
      have h0 : ¬ ((i : Int) + 1 < 0) := by omega
      have h4 : (((i : Int) + 1)).toNat = i + 1 := by omega
      go_simp
    · rw [hcut, List.getElem?_drop] at hu
      have := hcell _ u hu
      rw [Nat.add_assoc]
      exact this
end Go.Proofs.Ytnnacdkijeoeoaa

namespace Go.Proofs.Ytnnacdkijeoeoaa
open Go.RowKit

set_option maxHeartbeats 4000000 in
theorem joints_any {A1 A2 : Option Addr} {c1 c2 : Nat} {l : List Sec} {js : List Jo} (w : World) (h1 : Rd w A1 (cellsS l)) (h2 : Rd w A2 (cellsJ js)) (hj : js.length ≤ c2) (hc2 : c2 ≤ 9223372036854775807) :
    Calls Try.prog 52 #[.slice A1 l.length c1, .slice A2 js.length c2] w fun x w' => x = .returned (.bool (jointsB l js)) ∧ Fr (fun _ => False) w w' := by
  generalize hO : jointsB l js = O
  have HO := Lib.hid hO
  clear hO
  go_enter Try.func52, Try.ntmps52
  go_wp2_with fail
  go_loopw [10] (fun t wr => ∃ j : Nat, j ≤ js.length ∧ t = .int .i64 (j : Nat) ∧ jointsB l (js.drop j) = O ∧ Fr (fun _ => False) w wr) (fun t _ => js.length - (intOf t).toNat)
  case atStart => exact ⟨0, Nat.zero_le _, rfl, HO.out, Fr.refl _ _⟩
  case round =>
    clear HO
    obtain ⟨j, hjl, rfl, hO, fr⟩ := hrel
    by_cases hlt : j < js.length
    · obtain ⟨A3, c3, hsl, hr3, hl3, hc3⟩ := behind_slice (h2.fr fr fun _ _ => id) hj j hlt hc2
      obtain ⟨g, o, rfl, d0, d1, d2, d3⟩ := rd_jo (h2.fr fr fun _ _ => id) hlt
      rw [List.drop_eq_getElem_cons hlt, jointsB, joOkB] at hO
      generalize js[j] = v at *
      obtain ⟨a, ae, b, be⟩ := v
      simp only at *
      have HD := Lib.hid h2
      have h1r := h1.fr fr fun _ _ => id
      have KE1 := fun w h => isend_any (c := c1) a ae w (l := l) (A := A1) h
      have KE2 := fun w h => isend_any (c := c1) b be w (l := l) (A := A1) h
      have KS1 := fun w h => stands_any (c := c3) a ae w (l := js.drop (j + 1)) (A := A3) h (by omega)
      have KS2 := fun w h => stands_any (c := c3) b be w (l := js.drop (j + 1)) (A := A3) h (by omega)
      generalize hd : js.drop (j + 1) = js' at *
      have HJ := Lib.hid hd
      clear hd h2
      have f0 := fr.alloc (.cells #[.int .i64 a, .int .i64 ae, .int .i64 b, .int .i64 be] 75)
      have h1a := h1r.fr ((Fr.refl (fun _ => False) wr).alloc (.cells #[.int .i64 a, .int .i64 ae, .int .i64 b, .int .i64 be] 75)) fun _ _ => id
      have hr3a := hr3.fr ((Fr.refl (fun _ => False) wr).alloc (.cells #[.int .i64 a, .int .i64 ae, .int .i64 b, .int .i64 be] 75)) fun _ _ => id
      have HA := Lib.hid h1r
      have HB := Lib.hid hr3
      have HW := Lib.hid h1
      clear h1 h1r hr3
      cases x1 : (a == b)
      · rw [x1] at hO
        rw [Bool.not_false, Bool.true_and] at hO
        cases x2 : isEndB l a ae
        · rw [x2] at hO KE1
          rw [Bool.false_and, Bool.false_and, Bool.false_and] at hO
          subst hO
          clear x2
          go_wp2_with fail
          refine (KE1 _ h1a).mono ?_
          clear KE1
          rintro x w3 ⟨rfl, rfl⟩
          go_wp2_with fail
          go_ret
          exact ⟨rfl, f0⟩
        · rw [x2] at hO KE1
          rw [Bool.true_and] at hO
          clear x2
          cases x3 : isEndB l b be
          · rw [x3] at hO KE2
            rw [Bool.false_and, Bool.false_and] at hO
            subst hO
            clear x3
            go_wp2_with fail
            refine (KE1 _ h1a).mono ?_
            clear KE1
            rintro x w3 ⟨rfl, rfl⟩
            go_wp2_with fail
            refine (KE2 _ h1a).mono ?_
            clear KE2
            rintro x w3 ⟨rfl, rfl⟩
            go_wp2_with fail
            go_ret
            exact ⟨rfl, f0⟩
          · rw [x3] at hO KE2
            rw [Bool.true_and] at hO
            clear x3
            cases x4 : nextOk js' a ae
            · rw [x4] at hO KS1
              rw [Bool.not_false, Bool.true_and] at hO
              cases x5 : nextOk js' b be
              · rw [x5] at hO KS2
                rw [Bool.not_false, Bool.true_and] at hO
                have HO := Lib.hid hO
                clear hO x4 x5
                go_wp2_with fail
                refine (KE1 _ h1a).mono ?_
                clear KE1
                rintro x w3 ⟨rfl, rfl⟩
                go_wp2_with fail
                refine (KE2 _ h1a).mono ?_
                clear KE2
                rintro x w3 ⟨rfl, rfl⟩
                go_wp2_with fail
                refine (KS1 _ hr3a).mono ?_
                clear KS1
                rintro x w3 ⟨rfl, f3⟩
                have k2 := f3.cell (p := ⟨wr.heap.size, 2, none⟩) (by simp) id
                have k3 := f3.cell (p := ⟨wr.heap.size, 3, none⟩) (by simp) id
                simp [World.cell?_alloc_at] at k2 k3
                have hr3b := hr3a.fr f3 fun _ _ => id
                go_wp2_with fail
                refine (KS2 _ hr3b).mono ?_
                clear KS2
                rintro x w4 ⟨rfl, f4⟩
                go_wp2_with fail
                go_roundw
                case rel => exact ⟨j + 1, by omega, by go_num, by rw [HJ.out]; exact HO.out, fr_nil (fr_nil f0 f3) f4⟩
                case measure => simp [intOf]; omega
              · rw [x5] at hO KS2
                rw [Bool.not_true, Bool.false_and] at hO
                subst hO
                clear x4 x5
                go_wp2_with fail
                refine (KE1 _ h1a).mono ?_
                clear KE1
                rintro x w3 ⟨rfl, rfl⟩
                go_wp2_with fail
                refine (KE2 _ h1a).mono ?_
                clear KE2
                rintro x w3 ⟨rfl, rfl⟩
                go_wp2_with fail
                refine (KS1 _ hr3a).mono ?_
                clear KS1
                rintro x w3 ⟨rfl, f3⟩
                have k2 := f3.cell (p := ⟨wr.heap.size, 2, none⟩) (by simp) id
                have k3 := f3.cell (p := ⟨wr.heap.size, 3, none⟩) (by simp) id
                simp [World.cell?_alloc_at] at k2 k3
                have hr3b := hr3a.fr f3 fun _ _ => id
                go_wp2_with fail
                refine (KS2 _ hr3b).mono ?_
                clear KS2
                rintro x w4 ⟨rfl, f4⟩
                go_wp2_with fail
                go_ret
                exact ⟨rfl, fr_nil (fr_nil f0 f3) f4⟩
            · rw [x4] at hO KS1
              rw [Bool.not_true, Bool.false_and, Bool.false_and] at hO
              subst hO
              clear x4
              go_wp2_with fail
              refine (KE1 _ h1a).mono ?_
              clear KE1
              rintro x w3 ⟨rfl, rfl⟩
              go_wp2_with fail
              refine (KE2 _ h1a).mono ?_
              clear KE2
              rintro x w3 ⟨rfl, rfl⟩
              go_wp2_with fail
              refine (KS1 _ hr3a).mono ?_
              clear KS1
              rintro x w3 ⟨rfl, f3⟩
              go_wp2_with fail
              go_ret
              exact ⟨rfl, fr_nil f0 f3⟩
      · rw [x1] at hO
        rw [Bool.not_true, Bool.false_and, Bool.false_and, Bool.false_and, Bool.false_and] at hO
        subst hO
        go_wp2_with fail
        go_ret
        exact ⟨rfl, f0⟩
    · have hjl : j = js.length := by omega
      subst hjl
      rw [List.drop_length] at hO
      have hO' : true = O := hO
      subst hO'
      clear hO
      go_wp2_with fail
      go_ret
      exact ⟨rfl, fr⟩
end Go.Proofs.Ytnnacdkijeoeoaa


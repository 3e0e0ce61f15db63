/- Contracts and plain mathematics of earlier stages: Nm. -/
import Derived.Test.YtnnacdkijeoeoaaLp
import Derived.Test.YtnnacdkijeoeoaaMk
import Derived.Deep.QuietTactic
import Derived.Deep.LoopGhost
import Derived.BigQuiet
namespace Go.Proofs.Ytnnacdkijeoeoaa.Nk
open Go.RowKit Lk

/-- a look -/
structure Lo where
  val : Int
  stamp : Int
  ok : Bool
deriving DecidableEq
instance : Inhabited Lo := ⟨⟨0, 0, false⟩⟩
def cLo (l : Lo) : List Value := [.int .i64 l.val, .int .i64 l.stamp, .bool l.ok]
theorem cLo_len (l : Lo) : (cLo l).length = 3 := rfl
theorem rd_lo {w : World} {A : Option Addr} {l : List Lo} (h : Rd w A (l.flatMap cLo)) {j : Nat} (hj : j < l.length) : ∃ g o, A = some ⟨g, o, none⟩ ∧ w.cell? ⟨g, o + j * 3, none⟩ = some (.int .i64 l[j].val) ∧ w.cell? ⟨g, o + j * 3 + 1, none⟩ = some (.int .i64 l[j].stamp) ∧ w.cell? ⟨g, o + j * 3 + 2, none⟩ = some (.bool l[j].ok) := by
  obtain ⟨b, o, hA, _, hc⟩ := rd_flat cLo cLo_len h hj (by decide)
  exact ⟨b, o, hA, hc 0 _ (by decide) rfl, hc 1 _ (by decide) rfl, hc 2 _ (by decide) rfl⟩
/-- a view, as plain data; with its lists' addresses -/
structure Vp where
  occ : List Lo
  pos : List Lo
  shut : List Lo
  lamp : List Lo
structure Vm where
  A1 : Option Addr
  c1 : Nat
  occ : List Lo
  A2 : Option Addr
  c2 : Nat
  pos : List Lo
  A3 : Option Addr
  c3 : Nat
  shut : List Lo
  A4 : Option Addr
  c4 : Nat
  lamp : List Lo
def Vm.vp (V : Vm) : Vp := ⟨V.occ, V.pos, V.shut, V.lamp⟩
def Vm.arr (V : Vm) : Array Value := #[.slice V.A1 V.occ.length V.c1, .slice V.A2 V.pos.length V.c2, .slice V.A3 V.shut.length V.c3, .slice V.A4 V.lamp.length V.c4]
def Vm.val (V : Vm) : Value := .agg V.arr
structure Vm.Ok (w : World) (V : Vm) : Prop where
  occ : Rd w V.A1 (V.occ.flatMap cLo)
  pos : Rd w V.A2 (V.pos.flatMap cLo)
  shut : Rd w V.A3 (V.shut.flatMap cLo)
  lamp : Rd w V.A4 (V.lamp.flatMap cLo)
theorem Vm.Ok.fr {w w1 : World} {V : Vm} (h : V.Ok w) (f : Fr (fun _ => False) w w1) : V.Ok w1 :=
  ⟨h.occ.fr f fun _ _ => id, h.pos.fr f fun _ _ => id, h.shut.fr f fun _ _ => id, h.lamp.fr f fun _ _ => id⟩
def eyeArr (V : Vm) (age : Int) : Array Value := #[.slice V.A1 V.occ.length V.c1, .slice V.A2 V.pos.length V.c2, .slice V.A3 V.shut.length V.c3, .slice V.A4 V.lamp.length V.c4, .int .i64 age]
theorem five {w : World} {b : Nat} {v0 v1 v2 v3 v4 : Value} {t : TypeId} (h : Is w b t #[v0, v1, v2, v3, v4]) : w.cell? ⟨b, 0, none⟩ = some v0 ∧ w.cell? ⟨b, 1, none⟩ = some v1 ∧ w.cell? ⟨b, 2, none⟩ = some v2 ∧ w.cell? ⟨b, 3, none⟩ = some v3 ∧ w.cell? ⟨b, 4, none⟩ = some v4 :=
  ⟨h.cell 0, h.cell 1, h.cell 2, h.cell 3, h.cell 4⟩

/-! ### Plain: what is seen -/
def loAt (l : List Lo) (s : Int) : Lo := l.getD s.toNat default
theorem loAt_nat {l : List Lo} {j : Nat} (hj : j < l.length) : loAt l j = l[j] := by
  unfold loAt
  rw [Int.toNat_natCast, List.getD_eq_getElem?_getD, List.getElem?_eq_getElem hj]; rfl
def clrB (occ : List Lo) (s : Int) : Bool := (loAt occ s).ok && decide ((loAt occ s).val = 0)
/-- clear, and so behind a cycle -/
def clbB (occ : List Lo) (s t : Int) : Bool := clrB occ s && decide (t < (loAt occ s).stamp)
def litB (lamp : List Lo) (s : Int) : Bool := (loAt lamp s).ok && decide ((loAt lamp s).val = 1)
set_option maxRecDepth 100000 in
theorem cleared_any (x : Lo) (w : World) : Calls Try.prog 45 #[.agg #[.int .i64 x.val, .int .i64 x.stamp, .bool x.ok]] w fun e w' => e = .returned (.bool (x.ok && decide (x.val = 0))) ∧ Fr (fun _ => False) w w' := by
  obtain ⟨v, s, b⟩ := x
  have HF := Lib.hid ((Fr.refl (fun _ => False) w).alloc (.cells #[.int .i64 v, .int .i64 s, .bool b] 51))
  dsimp only
  cases b
  · rw [Bool.false_and]
    go_enter Try.func45, Try.ntmps45
    go_wp2
    go_ret
    exact ⟨rfl, HF.out⟩
  · rw [Bool.true_and]
    rw [show decide (v = 0) = (v == 0) from rfl]
    generalize hd : (v == 0) = d
    have HD := Lib.hid hd
    clear hd
    go_enter Try.func45, Try.ntmps45
    go_wp2_with fail
    go_ret
    exact ⟨by rw [← HD.out]; rfl, HF.out⟩
end Go.Proofs.Ytnnacdkijeoeoaa.Nk


import Derived.Test.YtginfnbdnkgjbaaGreatV6
import Derived.Test.YtginfnbdnkgjbaaGreatV5
import Derived.Test.YtginfnbdnkgjbaaGreatV4
import Derived.Test.YtginfnbdnkgjbaaGreatKx
import Derived.Test.YtginfnbdnkgjbaaGreatLtob
import Derived.Test.YtginfnbdnkgjbaaGreatKa
import Derived.Test.YtginfnbdnkgjbaaGreatLfacts
import Derived.JoinedCond
namespace Go.Proofs.YtginfnbdnkgjbaaGreat.Nk
open Lk
theorem aspAll_stop (c : Cf) (k : Kp) : ∀ n : Nat, (∀ i : Nat, i < n → (rsAt k i).st ≠ 2) → aspAll c k n = List.replicate c.sigs.length 0
  | 0, _ => rfl
  | n + 1, h => by
    rw [aspAll_succ, aspAll_stop c k n fun i hi => h i (by omega)]
    unfold aspK
    rw [if_neg (h n (by omega))]
end Go.Proofs.YtginfnbdnkgjbaaGreat.Nk
/- The walk of KernelFrees. -/
namespace Go.Proofs.YtginfnbdnkgjbaaGreat.Nk
open Go.RowKit Lk
/-- what the law asks of a section -/
structure FrS (c : Cf) (v : Vp) (now : Int) (k k1 : Kp) (s : Nat) (o : Int) : Prop where
  own : ownAt k1.own s = 0
  dirty : k1.dirty = true
  why : (o = -1 ∧ 0 < k.rss.getD s 0 ∧ (loAt v.occ s).ok = true ∧ (loAt v.occ s).val = 0 ∧ k.rss.getD s 0 ≤ (loAt v.occ s).stamp) ∨
    ∃ i : Nat, i < c.rts.length ∧ o = (i : Int) + 1 ∧ (rsAt k i).st = 4 ∧ (rsAt k i).since + c.tm.hold ≤ now ∧
      ((rsAt k1 i).st = 0 ∨ ∃ p : Nat, ((rsAt k i).nxt = (p : Int)) ∧ (∀ j (hj : j < (rtAt c i).path.length), ((rtAt c i).path[j]).sec = (s : Int) → j = p) ∧
        (loAt v.occ s).ok = true ∧ (loAt v.occ s).val = 0 ∧ (rsAt k i).since + c.tm.hold < (loAt v.occ s).stamp)
/-! ### The walk -/
structure Tri (w : World) (cb : Nat) (C : Cm) (K : Km) (V : Vm) (now : Int) (rec : Bool) : Prop where
  c : Is w cb 30 C.arr
  k : Is w (cb + 1) 35 K.arr
  x : Is w (cb + 2) 85 #[.slice V.A1 V.occ.length V.c1, .slice V.A2 V.pos.length V.c2, .slice V.A3 V.shut.length V.c3, .slice V.A4 V.lamp.length V.c4, .int .i64 now, .bool rec]
theorem Tri.fr {w w1 : World} {cb : Nat} {C : Cm} {K : Km} {V : Vm} {now : Int} {rec : Bool} (h : Tri w cb C K V now rec) (f : Fr (fun _ => False) w w1) : Tri w1 cb C K V now rec := ⟨h.c.fr f id, h.k.fr f id, h.x.fr f id⟩
theorem own_at {l : List Int} {j : Nat} (hj : j < l.length) : ownAt l j = l[j] := by
  unfold ownAt
  rw [Int.toNat_natCast, List.getD_eq_getElem?_getD, List.getElem?_eq_getElem hj]; rfl
theorem rsk_at {k : Kp} {j : Nat} (hj : j < k.rts.length) : rsAt k j = k.rts[j] := by
  unfold rsAt
  rw [Int.toNat_natCast, List.getD_eq_getElem?_getD, List.getElem?_eq_getElem hj]; rfl
end Go.Proofs.YtginfnbdnkgjbaaGreat.Nk
/- Plain: a cycle that sees nothing well (P14.4). -/
namespace Go.Proofs.YtginfnbdnkgjbaaGreat.Nk
open Lk

/-- nothing is seen clear -/
def Worst (v : Vp) : Prop := ∀ s, clrB v.occ s = false
theorem worst_ready {c : Cf} {v : Vp} {k : Kp} {i : Nat} (hw : Worst v) (h1 : 1 ≤ (rtAt c i).path.length) : (pathL (rtAt c i)).all (clrB v.occ) = false ∧ readyB c v k i = false := by
  have h : (pathL (rtAt c i)).all (clrB v.occ) = false := by
    unfold pathL
    cases e : (rtAt c i).path with
    | nil => rw [e] at h1; simp at h1
    | cons x r => rw [List.map_cons, List.all_cons, hw, Bool.false_and]
  refine ⟨h, ?_⟩
  unfold readyB
  rw [h, Bool.false_and]
theorem worst_clb {v : Vp} (hw : Worst v) (s t : Int) : clbB v.occ s t = false := by
  unfold clbB
  rw [hw, Bool.false_and]
theorem worst_pass {c : Cf} {v : Vp} {now : Int} {k : Kp} {i : Nat} (hw : Worst v) (hi : i < k.rts.length) : (passK c v now k i).own = k.own ∧ (rsAt (passK c v now k i) i).st = (rsAt k i).st := by
  unfold passK
  split
  · exact ⟨rfl, rfl⟩
  · split
    · exact ⟨rfl, by rw [rsAt_rset hi]⟩
    · rw [worst_clb hw, if_neg (by decide)]
      exact ⟨rfl, rfl⟩
/-- no route comes to be open -/
theorem worst_st {c : Cf} {v : Vp} {rec : Bool} {now : Int} {k : Kp} {i : Nat} (hw : Worst v) (h1 : 1 ≤ (rtAt c i).path.length) (hi : i < k.rts.length) : (rsAt (goK c v rec now k i) i).st ≠ 2 := by
  obtain ⟨a, b⟩ := worst_ready (c := c) (k := k) (i := i) hw h1
  unfold goK
  rw [a, b, Bool.and_false]
  split
  · rename_i h
    rw [if_neg (by decide)]
    omega
  · split
    · rw [if_pos rfl, rsAt_rset hi]
      show (4 : Int) ≠ 2
      decide
    · rename_i h2 h3
      split
      · rename_i h4
        unfold giveK
        split
        · omega
        · split
          · have : rsAt (doneK c (passK c v now k i) i) i = ⟨0, 0, 0, 0⟩ := rsAt_rset (k := passK c v now k i) (by rw [(passK_len c v now k i).1]; exact hi)
            rw [this]
            decide
          · rw [(worst_pass hw hi).2]
            omega
      · omega
theorem worst_all {c : Cf} {v : Vp} {rec : Bool} {now : Int} {k : Kp} (hw : Worst v) (h1 : ∀ i : Nat, i < c.rts.length → 1 ≤ (rtAt c i).path.length) (hl : k.rts.length = c.rts.length) : ∀ n, n ≤ c.rts.length → ∀ i : Nat, i < n → (rsAt (goAll c v rec now k n) i).st ≠ 2
  | 0, _, _, h => by omega
  | n + 1, hn, i, hi => by
    rw [goAll_succ]
    by_cases e : n = i
    · subst e
      exact worst_st hw (h1 n (by omega)) (by rw [(goAll_len c v rec now k n).1]; omega)
    · rw [goK_other (h := e)]
      exact worst_all hw h1 hl n (by omega) i (by omega)
theorem worst_open {c : Cf} {v : Vp} {now : Int} {k : Kp} (hw : Worst v) (h1 : ∀ i : Nat, i < c.rts.length → 1 ≤ (rtAt c i).path.length) (hl : k.rts.length = c.rts.length) (i : Nat) (hi : i < c.rts.length) : (rsAt (cycK c v now k) i).st ≠ 2 := by
  have := worst_all (rec := !k.dirty) (now := now) hw h1 hl c.rts.length (Nat.le_refl _) i hi
  unfold rsAt at this ⊢
  rw [cycK_rts]
  exact this
/-- of the routes that are ending each waits for a section of its path that is its own -/
def Waits (c : Cf) (k : Kp) : Prop := ∀ i : Nat, i < c.rts.length → (rsAt k i).st = 4 → (rsAt k i).nxt ≠ (rtAt c i).path.length ∧ ownAt k.own (nxtSec c k i) = (i : Int) + 1
theorem worst_go {c : Cf} {v : Vp} {rec : Bool} {now : Int} {k : Kp} {i : Nat} (hw : Worst v) (hq : (rsAt k i).st = 4 → (rsAt k i).nxt ≠ (rtAt c i).path.length ∧ ownAt k.own (nxtSec c k i) = (i : Int) + 1) : (goK c v rec now k i).own = k.own := by
  unfold goK
  split
  · split <;> rfl
  · split
    · split
      · rfl
      · split <;> rfl
    · split
      · rename_i h4
        obtain ⟨q1, q2⟩ := hq h4
        have p : passK c v now k i = k := by
          unfold passK
          rw [if_neg q1, if_neg (fun h => h q2), worst_clb hw, if_neg (by decide)]
        unfold giveK
        rw [p, if_neg q1]
        split <;> rfl
      · rfl
theorem worst_own {c : Cf} {v : Vp} {rec : Bool} {now : Int} {k : Kp} (hw : Worst v) (hq : Waits c k) : ∀ n, n ≤ c.rts.length → (goAll c v rec now k n).own = k.own
  | 0, _ => rfl
  | n + 1, hn => by
    have ih := worst_own (rec := rec) (now := now) hw hq n (by omega)
    have l : rsAt (goAll c v rec now k n) n = rsAt k n := goAll_later c v rec now k n n (Nat.le_refl n)
    rw [goAll_succ, worst_go hw, ih]
    intro h
    rw [l] at h ⊢
    have := hq n (by omega) h
    refine ⟨this.1, ?_⟩
    have e : nxtSec c (goAll c v rec now k n) n = nxtSec c k n := by unfold nxtSec; rw [l]
    rw [ih, e]
    exact this.2
theorem worst_res {v : Vp} {k : Kp} (hw : Worst v) : ∀ n, (resAll v k n).own = k.own
  | 0 => rfl
  | n + 1 => by
    rw [resAll_succ]
    have ih := worst_res (k := k) hw n
    unfold resK
    split
    · exact ih
    · split
      · exact ih
      · rw [worst_clb hw, if_neg (by decide)]
        exact ih
theorem worst_cyc {c : Cf} {v : Vp} {now : Int} {k : Kp} (hw : Worst v) (hq : Waits c k) : (cycK c v now k).own = k.own := by
  unfold cycK
  rw [worst_res hw, (crossAll_same c now _ _).1, worst_own hw hq _ (Nat.le_refl _)]
end Go.Proofs.YtginfnbdnkgjbaaGreat.Nk
/- A view's looks, stored one by one (written by gen/wo.py). -/
namespace Go.Proofs.YtginfnbdnkgjbaaGreat.Nk
open Go.RowKit Lk

theorem Sv.cell0 {w0 w : World} {vb : Nat} {V : Vm} (h : Sv w0 w vb V) {j g k : Nat} (hj : j < V.occ.length) (hA : V.A1 = some ⟨g, 0, none⟩) (hk : k < 3) (u : Value) (x : Lo) (hx : cLo x = (cLo V.occ[j]).set k u) : Sv w0 (w.setCell ⟨g, j * 3 + k, none⟩ u) vb { V with occ := V.occ.set j x } := by
  have hg : blk V.A1 = some g := by rw [hA]; rfl
  have hb := World.ownsRow.lt h.o0 g (by rw [own_blk]; exact hg)
  have fs : Fr (fun q => q = g) w (w.setCell ⟨g, j * 3 + k, none⟩ u) := far (j * 3 + k) u rfl
  have nv : vb ≠ g := fun e => wide_is_ne h.o0 h.is (by decide) (by rw [own_blk, e]; exact hg)
  have hown : w.ownsRow w0.heap.size 92 3 (.slice (some ⟨g, 0, none⟩) V.occ.length V.c1) V.occ.length (V.occ.flatMap cLo) := by
    have := h.o0
    rw [hA] at this
    exact this
  have ho := own_set cLo cLo_len hown hj hk u x hx
  have p1 := wide_fr h.o1 fs fun q hq e => h.d01 g hg (by subst e; rw [own_blk] at hq; exact hq)
  have p2 := wide_fr h.o2 fs fun q hq e => h.d02 g hg (by subst e; rw [own_blk] at hq; exact hq)
  have p3 := wide_fr h.o3 fs fun q hq e => h.d03 g hg (by subst e; rw [own_blk] at hq; exact hq)
  have i9 := h.is.fr fs fun e => nv e
  have e9 : (V.occ.set j x).length = V.occ.length := List.length_set ..
  have po : (w.setCell ⟨g, j * 3 + k, none⟩ u).ownsRow w0.heap.size 92 3 (.slice V.A1 (V.occ.set j x).length V.c1) (V.occ.set j x).length ((V.occ.set j x).flatMap cLo) := by
    rw [e9, hA]
    exact ho
  exact { h with is := (by unfold Vm.arr at i9 ⊢; simp only [e9]; exact i9), o1 := p1, o2 := p2, o3 := p3, o0 := po, f := h.f.setCell (p := ⟨g, j * 3 + k, none⟩) (.inr hb.1) u }
theorem Sv.put0 {w0 w : World} {vb : Nat} {V : Vm} (h : Sv w0 w vb V) {j g : Nat} (hj : j < V.occ.length) (hA : V.A1 = some ⟨g, 0, none⟩) (x : Lo) : Sv w0 (((w.setCell ⟨g, j * 3, none⟩ (.int .i64 x.val)).setCell ⟨g, j * 3 + 1, none⟩ (.int .i64 x.stamp)).setCell ⟨g, j * 3 + 2, none⟩ (.bool x.ok)) vb { V with occ := V.occ.set j x } := by
  obtain ⟨a, b, c⟩ := x
  have h0 := h.cell0 hj hA (k := 0) (by decide) (.int .i64 a) ⟨a, V.occ[j].stamp, V.occ[j].ok⟩ rfl
  have h1 := h0.cell0 (j := j) (k := 1) (by simpa using hj) hA (by decide) (.int .i64 b) ⟨a, b, V.occ[j].ok⟩ (by simp [cLo])
  have h2 := h1.cell0 (j := j) (k := 2) (by simpa using hj) hA (by decide) (.bool c) ⟨a, b, c⟩ (by simp [cLo])
  simpa only [List.set_set, Nat.add_zero] using h2
theorem Sv.at0 {w0 w : World} {vb : Nat} {V : Vm} (h : Sv w0 w vb V) {j : Nat} (hj : j < V.occ.length) : ∃ g, V.A1 = some ⟨g, 0, none⟩ ∧ (∃ u, w.cell? ⟨g, j * 3, none⟩ = some u) ∧ (∃ u, w.cell? ⟨g, j * 3 + 1, none⟩ = some u) ∧ (∃ u, w.cell? ⟨g, j * 3 + 2, none⟩ = some u) ∧
    w.frozen? ⟨g, j * 3, none⟩ = false ∧ w.frozen? ⟨g, j * 3 + 1, none⟩ = false ∧ w.frozen? ⟨g, j * 3 + 2, none⟩ = false := by
  obtain ⟨g, hA, -, -⟩ := own_some h.o0 (by omega)
  obtain ⟨g', o, hA', c0, c1, c2⟩ := rd_lo (wide_rd h.o0) hj
  rw [hA] at hA'
  injection hA' with e
  injection e with e1 e2
  subst e1 e2
  simp only [Nat.zero_add] at c0 c1 c2
  have o' := h.o0
  rw [hA] at o'
  exact ⟨g, hA, ⟨_, c0⟩, ⟨_, c1⟩, ⟨_, c2⟩, o'.frozenAt _, o'.frozenAt _, o'.frozenAt _⟩
theorem Sv.cell1 {w0 w : World} {vb : Nat} {V : Vm} (h : Sv w0 w vb V) {j g k : Nat} (hj : j < V.pos.length) (hA : V.A2 = some ⟨g, 0, none⟩) (hk : k < 3) (u : Value) (x : Lo) (hx : cLo x = (cLo V.pos[j]).set k u) : Sv w0 (w.setCell ⟨g, j * 3 + k, none⟩ u) vb { V with pos := V.pos.set j x } := by
  have hg : blk V.A2 = some g := by rw [hA]; rfl
  have hb := World.ownsRow.lt h.o1 g (by rw [own_blk]; exact hg)
  have fs : Fr (fun q => q = g) w (w.setCell ⟨g, j * 3 + k, none⟩ u) := far (j * 3 + k) u rfl
  have nv : vb ≠ g := fun e => wide_is_ne h.o1 h.is (by decide) (by rw [own_blk, e]; exact hg)
  have hown : w.ownsRow w0.heap.size 92 3 (.slice (some ⟨g, 0, none⟩) V.pos.length V.c2) V.pos.length (V.pos.flatMap cLo) := by
    have := h.o1
    rw [hA] at this
    exact this
  have ho := own_set cLo cLo_len hown hj hk u x hx
  have p0 := wide_fr h.o0 fs fun q hq e => h.d01 q (by rw [own_blk] at hq; exact hq) (by rw [e]; exact hg)
  have p2 := wide_fr h.o2 fs fun q hq e => h.d12 g hg (by subst e; rw [own_blk] at hq; exact hq)
  have p3 := wide_fr h.o3 fs fun q hq e => h.d13 g hg (by subst e; rw [own_blk] at hq; exact hq)
  have i9 := h.is.fr fs fun e => nv e
  have e9 : (V.pos.set j x).length = V.pos.length := List.length_set ..
  have po : (w.setCell ⟨g, j * 3 + k, none⟩ u).ownsRow w0.heap.size 92 3 (.slice V.A2 (V.pos.set j x).length V.c2) (V.pos.set j x).length ((V.pos.set j x).flatMap cLo) := by
    rw [e9, hA]
    exact ho
  exact { h with is := (by unfold Vm.arr at i9 ⊢; simp only [e9]; exact i9), o0 := p0, o2 := p2, o3 := p3, o1 := po, f := h.f.setCell (p := ⟨g, j * 3 + k, none⟩) (.inr hb.1) u }
theorem Sv.put1 {w0 w : World} {vb : Nat} {V : Vm} (h : Sv w0 w vb V) {j g : Nat} (hj : j < V.pos.length) (hA : V.A2 = some ⟨g, 0, none⟩) (x : Lo) : Sv w0 (((w.setCell ⟨g, j * 3, none⟩ (.int .i64 x.val)).setCell ⟨g, j * 3 + 1, none⟩ (.int .i64 x.stamp)).setCell ⟨g, j * 3 + 2, none⟩ (.bool x.ok)) vb { V with pos := V.pos.set j x } := by
  obtain ⟨a, b, c⟩ := x
  have h0 := h.cell1 hj hA (k := 0) (by decide) (.int .i64 a) ⟨a, V.pos[j].stamp, V.pos[j].ok⟩ rfl
  have h1 := h0.cell1 (j := j) (k := 1) (by simpa using hj) hA (by decide) (.int .i64 b) ⟨a, b, V.pos[j].ok⟩ (by simp [cLo])
  have h2 := h1.cell1 (j := j) (k := 2) (by simpa using hj) hA (by decide) (.bool c) ⟨a, b, c⟩ (by simp [cLo])
  simpa only [List.set_set, Nat.add_zero] using h2
theorem Sv.at1 {w0 w : World} {vb : Nat} {V : Vm} (h : Sv w0 w vb V) {j : Nat} (hj : j < V.pos.length) : ∃ g, V.A2 = some ⟨g, 0, none⟩ ∧ (∃ u, w.cell? ⟨g, j * 3, none⟩ = some u) ∧ (∃ u, w.cell? ⟨g, j * 3 + 1, none⟩ = some u) ∧ (∃ u, w.cell? ⟨g, j * 3 + 2, none⟩ = some u) ∧
    w.frozen? ⟨g, j * 3, none⟩ = false ∧ w.frozen? ⟨g, j * 3 + 1, none⟩ = false ∧ w.frozen? ⟨g, j * 3 + 2, none⟩ = false := by
  obtain ⟨g, hA, -, -⟩ := own_some h.o1 (by omega)
  obtain ⟨g', o, hA', c0, c1, c2⟩ := rd_lo (wide_rd h.o1) hj
  rw [hA] at hA'
  injection hA' with e
  injection e with e1 e2
  subst e1 e2
  simp only [Nat.zero_add] at c0 c1 c2
  have o' := h.o1
  rw [hA] at o'
  exact ⟨g, hA, ⟨_, c0⟩, ⟨_, c1⟩, ⟨_, c2⟩, o'.frozenAt _, o'.frozenAt _, o'.frozenAt _⟩
theorem Sv.cell2 {w0 w : World} {vb : Nat} {V : Vm} (h : Sv w0 w vb V) {j g k : Nat} (hj : j < V.shut.length) (hA : V.A3 = some ⟨g, 0, none⟩) (hk : k < 3) (u : Value) (x : Lo) (hx : cLo x = (cLo V.shut[j]).set k u) : Sv w0 (w.setCell ⟨g, j * 3 + k, none⟩ u) vb { V with shut := V.shut.set j x } := by
  have hg : blk V.A3 = some g := by rw [hA]; rfl
  have hb := World.ownsRow.lt h.o2 g (by rw [own_blk]; exact hg)
  have fs : Fr (fun q => q = g) w (w.setCell ⟨g, j * 3 + k, none⟩ u) := far (j * 3 + k) u rfl
  have nv : vb ≠ g := fun e => wide_is_ne h.o2 h.is (by decide) (by rw [own_blk, e]; exact hg)
  have hown : w.ownsRow w0.heap.size 92 3 (.slice (some ⟨g, 0, none⟩) V.shut.length V.c3) V.shut.length (V.shut.flatMap cLo) := by
    have := h.o2
    rw [hA] at this
    exact this
  have ho := own_set cLo cLo_len hown hj hk u x hx
  have p0 := wide_fr h.o0 fs fun q hq e => h.d02 q (by rw [own_blk] at hq; exact hq) (by rw [e]; exact hg)
  have p1 := wide_fr h.o1 fs fun q hq e => h.d12 q (by rw [own_blk] at hq; exact hq) (by rw [e]; exact hg)
  have p3 := wide_fr h.o3 fs fun q hq e => h.d23 g hg (by subst e; rw [own_blk] at hq; exact hq)
  have i9 := h.is.fr fs fun e => nv e
  have e9 : (V.shut.set j x).length = V.shut.length := List.length_set ..
  have po : (w.setCell ⟨g, j * 3 + k, none⟩ u).ownsRow w0.heap.size 92 3 (.slice V.A3 (V.shut.set j x).length V.c3) (V.shut.set j x).length ((V.shut.set j x).flatMap cLo) := by
    rw [e9, hA]
    exact ho
  exact { h with is := (by unfold Vm.arr at i9 ⊢; simp only [e9]; exact i9), o0 := p0, o1 := p1, o3 := p3, o2 := po, f := h.f.setCell (p := ⟨g, j * 3 + k, none⟩) (.inr hb.1) u }
theorem Sv.put2 {w0 w : World} {vb : Nat} {V : Vm} (h : Sv w0 w vb V) {j g : Nat} (hj : j < V.shut.length) (hA : V.A3 = some ⟨g, 0, none⟩) (x : Lo) : Sv w0 (((w.setCell ⟨g, j * 3, none⟩ (.int .i64 x.val)).setCell ⟨g, j * 3 + 1, none⟩ (.int .i64 x.stamp)).setCell ⟨g, j * 3 + 2, none⟩ (.bool x.ok)) vb { V with shut := V.shut.set j x } := by
  obtain ⟨a, b, c⟩ := x
  have h0 := h.cell2 hj hA (k := 0) (by decide) (.int .i64 a) ⟨a, V.shut[j].stamp, V.shut[j].ok⟩ rfl
  have h1 := h0.cell2 (j := j) (k := 1) (by simpa using hj) hA (by decide) (.int .i64 b) ⟨a, b, V.shut[j].ok⟩ (by simp [cLo])
  have h2 := h1.cell2 (j := j) (k := 2) (by simpa using hj) hA (by decide) (.bool c) ⟨a, b, c⟩ (by simp [cLo])
  simpa only [List.set_set, Nat.add_zero] using h2
theorem Sv.at2 {w0 w : World} {vb : Nat} {V : Vm} (h : Sv w0 w vb V) {j : Nat} (hj : j < V.shut.length) : ∃ g, V.A3 = some ⟨g, 0, none⟩ ∧ (∃ u, w.cell? ⟨g, j * 3, none⟩ = some u) ∧ (∃ u, w.cell? ⟨g, j * 3 + 1, none⟩ = some u) ∧ (∃ u, w.cell? ⟨g, j * 3 + 2, none⟩ = some u) ∧
    w.frozen? ⟨g, j * 3, none⟩ = false ∧ w.frozen? ⟨g, j * 3 + 1, none⟩ = false ∧ w.frozen? ⟨g, j * 3 + 2, none⟩ = false := by
  obtain ⟨g, hA, -, -⟩ := own_some h.o2 (by omega)
  obtain ⟨g', o, hA', c0, c1, c2⟩ := rd_lo (wide_rd h.o2) hj
  rw [hA] at hA'
  injection hA' with e
  injection e with e1 e2
  subst e1 e2
  simp only [Nat.zero_add] at c0 c1 c2
  have o' := h.o2
  rw [hA] at o'
  exact ⟨g, hA, ⟨_, c0⟩, ⟨_, c1⟩, ⟨_, c2⟩, o'.frozenAt _, o'.frozenAt _, o'.frozenAt _⟩
theorem Sv.cell3 {w0 w : World} {vb : Nat} {V : Vm} (h : Sv w0 w vb V) {j g k : Nat} (hj : j < V.lamp.length) (hA : V.A4 = some ⟨g, 0, none⟩) (hk : k < 3) (u : Value) (x : Lo) (hx : cLo x = (cLo V.lamp[j]).set k u) : Sv w0 (w.setCell ⟨g, j * 3 + k, none⟩ u) vb { V with lamp := V.lamp.set j x } := by
  have hg : blk V.A4 = some g := by rw [hA]; rfl
  have hb := World.ownsRow.lt h.o3 g (by rw [own_blk]; exact hg)
  have fs : Fr (fun q => q = g) w (w.setCell ⟨g, j * 3 + k, none⟩ u) := far (j * 3 + k) u rfl
  have nv : vb ≠ g := fun e => wide_is_ne h.o3 h.is (by decide) (by rw [own_blk, e]; exact hg)
  have hown : w.ownsRow w0.heap.size 92 3 (.slice (some ⟨g, 0, none⟩) V.lamp.length V.c4) V.lamp.length (V.lamp.flatMap cLo) := by
    have := h.o3
    rw [hA] at this
    exact this
  have ho := own_set cLo cLo_len hown hj hk u x hx
  have p0 := wide_fr h.o0 fs fun q hq e => h.d03 q (by rw [own_blk] at hq; exact hq) (by rw [e]; exact hg)
  have p1 := wide_fr h.o1 fs fun q hq e => h.d13 q (by rw [own_blk] at hq; exact hq) (by rw [e]; exact hg)
  have p2 := wide_fr h.o2 fs fun q hq e => h.d23 q (by rw [own_blk] at hq; exact hq) (by rw [e]; exact hg)
  have i9 := h.is.fr fs fun e => nv e
  have e9 : (V.lamp.set j x).length = V.lamp.length := List.length_set ..
  have po : (w.setCell ⟨g, j * 3 + k, none⟩ u).ownsRow w0.heap.size 92 3 (.slice V.A4 (V.lamp.set j x).length V.c4) (V.lamp.set j x).length ((V.lamp.set j x).flatMap cLo) := by
    rw [e9, hA]
    exact ho
  exact { h with is := (by unfold Vm.arr at i9 ⊢; simp only [e9]; exact i9), o0 := p0, o1 := p1, o2 := p2, o3 := po, f := h.f.setCell (p := ⟨g, j * 3 + k, none⟩) (.inr hb.1) u }
theorem Sv.put3 {w0 w : World} {vb : Nat} {V : Vm} (h : Sv w0 w vb V) {j g : Nat} (hj : j < V.lamp.length) (hA : V.A4 = some ⟨g, 0, none⟩) (x : Lo) : Sv w0 (((w.setCell ⟨g, j * 3, none⟩ (.int .i64 x.val)).setCell ⟨g, j * 3 + 1, none⟩ (.int .i64 x.stamp)).setCell ⟨g, j * 3 + 2, none⟩ (.bool x.ok)) vb { V with lamp := V.lamp.set j x } := by
  obtain ⟨a, b, c⟩ := x
  have h0 := h.cell3 hj hA (k := 0) (by decide) (.int .i64 a) ⟨a, V.lamp[j].stamp, V.lamp[j].ok⟩ rfl
  have h1 := h0.cell3 (j := j) (k := 1) (by simpa using hj) hA (by decide) (.int .i64 b) ⟨a, b, V.lamp[j].ok⟩ (by simp [cLo])
  have h2 := h1.cell3 (j := j) (k := 2) (by simpa using hj) hA (by decide) (.bool c) ⟨a, b, c⟩ (by simp [cLo])
  simpa only [List.set_set, Nat.add_zero] using h2
theorem Sv.at3 {w0 w : World} {vb : Nat} {V : Vm} (h : Sv w0 w vb V) {j : Nat} (hj : j < V.lamp.length) : ∃ g, V.A4 = some ⟨g, 0, none⟩ ∧ (∃ u, w.cell? ⟨g, j * 3, none⟩ = some u) ∧ (∃ u, w.cell? ⟨g, j * 3 + 1, none⟩ = some u) ∧ (∃ u, w.cell? ⟨g, j * 3 + 2, none⟩ = some u) ∧
    w.frozen? ⟨g, j * 3, none⟩ = false ∧ w.frozen? ⟨g, j * 3 + 1, none⟩ = false ∧ w.frozen? ⟨g, j * 3 + 2, none⟩ = false := by
  obtain ⟨g, hA, -, -⟩ := own_some h.o3 (by omega)
  obtain ⟨g', o, hA', c0, c1, c2⟩ := rd_lo (wide_rd h.o3) hj
  rw [hA] at hA'
  injection hA' with e
  injection e with e1 e2
  subst e1 e2
  simp only [Nat.zero_add] at c0 c1 c2
  have o' := h.o3
  rw [hA] at o'
  exact ⟨g, hA, ⟨_, c0⟩, ⟨_, c1⟩, ⟨_, c2⟩, o'.frozenAt _, o'.frozenAt _, o'.frozenAt _⟩
theorem Sv.boxed {w0 w : World} {vb : Nat} {V : Vm} (h : Sv w0 w vb V) : Sv w0 (w.alloc (.cells V.arr 83)) w.heap.size V :=
  { h with is := Is.new w _ _, o0 := wide_fr h.o0 ((Fr.refl (fun _ => False) w).alloc _) fun _ _ => id, o1 := wide_fr h.o1 ((Fr.refl (fun _ => False) w).alloc _) fun _ _ => id, o2 := wide_fr h.o2 ((Fr.refl (fun _ => False) w).alloc _) fun _ _ => id, o3 := wide_fr h.o3 ((Fr.refl (fun _ => False) w).alloc _) fun _ _ => id, f := h.f.alloc _, hb := h.f.size }
end Go.Proofs.YtginfnbdnkgjbaaGreat.Nk
/- The walk of KernelWorst (written by gen/worst.py). -/
namespace Go.Proofs.YtginfnbdnkgjbaaGreat.Nk
open Go.RowKit Lk

theorem worst_of {occ : List Lo} (h : ∀ k (hk : k < occ.length), occ[k].ok = false) (pos shut lamp : List Lo) : Worst ⟨occ, pos, shut, lamp⟩ := fun s => by
  unfold clrB loAt
  rw [List.getD_eq_getElem?_getD]
  by_cases hs : s.toNat < occ.length
  · rw [List.getElem?_eq_getElem hs]
    show (occ[s.toNat].ok && _) = false
    rw [h _ hs, Bool.false_and]
  · rw [List.getElem?_eq_none (l := occ) (i := s.toNat) (by omega)]
    rfl
theorem bad_set {occ : List Lo} {j : Nat} (h : ∀ k (hk : k < occ.length), k < j → occ[k].ok = false) {x : Lo} (hx : x.ok = false) : ∀ k (hk : k < (occ.set j x).length), k < j + 1 → (occ.set j x)[k].ok = false := fun k hk hj => by
  rw [List.getElem_set]
  split
  · exact hx
  · exact h k (by simpa using hk) (by omega)
structure Wv (w0 w : World) (vb n m l : Nat) (V : Vm) (j : Nat) : Prop where
  sv : Sv w0 w vb V
  l0 : V.occ.length = n
  l1 : V.pos.length = n
  l2 : V.shut.length = m
  l3 : V.lamp.length = l
  bad : ∀ k (hk : k < V.occ.length), k < j → V.occ[k].ok = false
theorem Wv.put01 {w0 w : World} {vb n m l j : Nat} {V : Vm} (h : Wv w0 w vb n m l V j) (hj : j < n) : ∃ g0 g1, V.A1 = some ⟨g0, 0, none⟩ ∧ V.A2 = some ⟨g1, 0, none⟩ ∧
    Wv w0 (((w.setCell ⟨g0, j * 3, none⟩ (.int .i64 1)).setCell ⟨g0, j * 3 + 1, none⟩ (.int .i64 (-1))).setCell ⟨g0, j * 3 + 2, none⟩ (.bool false)) vb n m l { V with occ := V.occ.set j ⟨1, -1, false⟩ } (j + 1) ∧
    Wv w0 (((((((w.setCell ⟨g0, j * 3, none⟩ (.int .i64 1)).setCell ⟨g0, j * 3 + 1, none⟩ (.int .i64 (-1))).setCell ⟨g0, j * 3 + 2, none⟩ (.bool false)).setCell ⟨g1, j * 3, none⟩ (.int .i64 0)).setCell ⟨g1, j * 3 + 1, none⟩ (.int .i64 (-1))).setCell ⟨g1, j * 3 + 2, none⟩ (.bool false))) vb n m l { V with occ := V.occ.set j ⟨1, -1, false⟩, pos := V.pos.set j ⟨0, -1, false⟩ } (j + 1) := by
  have h0 : j < V.occ.length := by rw [h.l0]; exact hj
  have h1 : j < V.pos.length := by rw [h.l1]; exact hj
  obtain ⟨g0, hA0, -⟩ := h.sv.at0 h0
  obtain ⟨g1, hA1, -⟩ := h.sv.at1 h1
  have s0 := h.sv.put0 h0 hA0 ⟨1, -1, false⟩
  have s1 := s0.put1 (j := j) (g := g1) h1 hA1 ⟨0, -1, false⟩
  have b := bad_set h.bad (x := ⟨1, -1, false⟩) rfl
  exact ⟨g0, g1, hA0, hA1, ⟨s0, by show (V.occ.set _ _).length = n; rw [List.length_set]; exact h.l0, h.l1, h.l2, h.l3, b⟩, ⟨s1, by show (V.occ.set _ _).length = n; rw [List.length_set]; exact h.l0, by show (V.pos.set _ _).length = n; rw [List.length_set]; exact h.l1, h.l2, h.l3, b⟩⟩
theorem Wv.put2 {w0 w : World} {vb n m l q j : Nat} {V : Vm} (h : Wv w0 w vb n m l V q) (hj : j < m) : ∃ g, V.A3 = some ⟨g, 0, none⟩ ∧ Wv w0 (((w.setCell ⟨g, j * 3, none⟩ (.int .i64 0)).setCell ⟨g, j * 3 + 1, none⟩ (.int .i64 (-1))).setCell ⟨g, j * 3 + 2, none⟩ (.bool false)) vb n m l { V with shut := V.shut.set j ⟨0, -1, false⟩ } q := by
  have h0 : j < V.shut.length := by rw [h.l2]; exact hj
  obtain ⟨g0, hA0, -⟩ := h.sv.at2 h0
  exact ⟨g0, hA0, h.sv.put2 h0 hA0 ⟨0, -1, false⟩, h.l0, h.l1, by show (V.shut.set _ _).length = m; rw [List.length_set]; exact h.l2, h.l3, h.bad⟩
theorem Wv.put3 {w0 w : World} {vb n m l q j : Nat} {V : Vm} (h : Wv w0 w vb n m l V q) (hj : j < l) : ∃ g, V.A4 = some ⟨g, 0, none⟩ ∧ Wv w0 (((w.setCell ⟨g, j * 3, none⟩ (.int .i64 0)).setCell ⟨g, j * 3 + 1, none⟩ (.int .i64 (-1))).setCell ⟨g, j * 3 + 2, none⟩ (.bool false)) vb n m l { V with lamp := V.lamp.set j ⟨0, -1, false⟩ } q := by
  have h0 : j < V.lamp.length := by rw [h.l3]; exact hj
  obtain ⟨g0, hA0, -⟩ := h.sv.at3 h0
  exact ⟨g0, hA0, h.sv.put3 h0 hA0 ⟨0, -1, false⟩, h.l0, h.l1, h.l2, by show (V.lamp.set _ _).length = l; rw [List.length_set]; exact h.l3, h.bad⟩
theorem step_cases2 (c : Cf) (v : Vp) (now : Int) (k : Kp) : (∃ er : Int, er ≠ 0 ∧ (stepM c v now k).2.2 = er) ∨ (FitP c k ∧ tmB now = true ∧ stepM c v now k = (cycK c v now k, aspAll c (cycK c v now k) c.rts.length, 0)) := by
  unfold stepM
  cases h1 : (fitsB c k && seesB c v)
  · rw [if_pos rfl]
    exact .inl ⟨21, by decide, rfl⟩
  · rw [if_neg (by decide)]
    cases h2 : tmB now
    · rw [if_pos rfl]
      exact .inl ⟨32, by decide, rfl⟩
    · rw [if_neg (by decide)]
      rw [Bool.and_eq_true] at h1
      exact .inr ⟨fits_iff.1 h1.1, rfl, rfl⟩
theorem one_path {c : Cf} (h : checkE c = 0) (i : Nat) (hi : i < c.rts.length) : 1 ≤ (rtAt c i).path.length := by
  rw [rt_mem hi]
  have := right_short (routesE_zero (check_parts h).2.2.2.2.1 _ (List.getElem_mem hi))
  have hr := routesE_zero (check_parts h).2.2.2.2.1 _ (List.getElem_mem hi)
  obtain ⟨a, -, -⟩ := errR_parts hr
  unfold routeB at a
  simp only [Bool.and_eq_true, decide_eq_true_eq] at a
  omega
/-- up to a route: each that is ending waits for a section of its own -/
def WaitsTo (c : Cf) (k : Kp) (n : Nat) : Prop := ∀ i : Nat, i < n → (rsAt k i).st = 4 → (rsAt k i).nxt ≠ (rtAt c i).path.length ∧ ownAt k.own (nxtSec c k i) = (i : Int) + 1
theorem WaitsTo.step {c : Cf} {k : Kp} {n : Nat} (h : WaitsTo c k n) (g : (rsAt k n).st = 4 → (rsAt k n).nxt ≠ (rtAt c n).path.length ∧ ownAt k.own (nxtSec c k n) = (n : Int) + 1) : WaitsTo c k (n + 1) := fun i hi => by
  by_cases e : i = n
  · subst e; exact g
  · exact h i (by omega)
set_option maxRecDepth 100000 in
set_option maxHeartbeats 16000000 in
theorem worst_walk {C : Cm} {K : Km} {w : World} (hC : C.Ok w) (hK : K.Ok w) (hx : C.cr.length * 24 ≤ 140737488351232) (hg : C.sg.length * 24 ≤ 140737488351232) (now : Int) :
    Calls Tryz.prog 13 #[C.val, K.val, .int .i64 now] w fun e w' => e = .returned (.bool true) ∧ Fr (fun _ => False) w w' := by
  have HC := Lib.hid hC
  have HK := Lib.hid hK
  have HXG := Lib.hid (And.intro hC.b1 (And.intro hx hg))
  have HF := Lib.hid (((Fr.refl (fun _ => False) w).alloc (.cells C.arr 30)).alloc (.cells K.arr 35))
  have HI := Lib.hid ((Is.new w 30 C.arr).alloc (.cells K.arr 35))
  have hJ := Is.new (w.alloc (.cells C.arr 30)) 35 K.arr
  rw [show (w.alloc (.cells C.arr 30)).heap.size = w.heap.size + 1 by simp] at hJ
  have HJ := Lib.hid hJ
  have KE := fun (W : World) (f : Fr (fun _ => False) w W) => seen_any (hC.fr f) (-1) hx hg
  clear hJ hC hK hx hg
  unfold Cm.val Cm.arr Km.val Km.arr at *
  go_enter Tryz.func13, Tryz.ntmps13
  go_wp2_with fail
  generalize World.alloc _ _ = w0 at *
  generalize hcb : w.heap.size = cb at *
  clear hcb
  refine (lives14_any _).mono ?_
  rintro _ w1 ⟨rfl, f1⟩
  have HI := Lib.hid (HI.out.fr f1 id)
  have HJ := Lib.hid (HJ.out.fr f1 id)
  have HF := Lib.hid (fr_nil HF.out f1)
  clear f1
  obtain ⟨p0, p1, p2, p3, p4, p5, p6, p7, p8⟩ := conf_cells0 HI.out
  have KE := KE _ HF.out
  go_wp2_with fail
  refine KE.mono ?_
  rintro _ w2 ⟨V0, vb0, rfl, hvp, hsv⟩
  have hw0 : Wv w1 (w2.alloc (.cells V0.arr 83)) w2.heap.size C.l.length C.cr.length C.sg.length V0 0 := by
    have e := congrArg Vp.occ hvp
    have e1 := congrArg Vp.pos hvp
    have e2 := congrArg Vp.shut hvp
    have e3 := congrArg Vp.lamp hvp
    refine ⟨hsv.boxed, ?_, ?_, ?_, ?_, fun k _ h => by omega⟩
    · rw [show V0.occ = _ from e]; simp [seenM, Cm.cf]
    · rw [show V0.pos = _ from e1]; simp [seenM, Cm.cf]
    · rw [show V0.shut = _ from e2]; simp [seenM, Cm.cf]
    · rw [show V0.lamp = _ from e3]; simp [seenM, Cm.cf]
  have HW := Lib.hid hw0
  clear hw0 hvp hsv KE p0 p1 p2 p3 p4 p5 p6 p7 p8
  unfold Vm.val Vm.arr at *
  go_upto_region 4 with fail
  generalize hw3 : World.alloc _ _ = w3 at *
  generalize w2.heap.size = xb at *
  clear hw3
  have v0 : w3.cell? ⟨xb, 0, none⟩ = some (.slice V0.A1 V0.occ.length V0.c1) := HW.out.sv.is.cell 0
  rw [HW.out.l0] at v0
  have b0 : (C.l.length : Int) < 9223372036854775807 := by have := HXG.out; omega
  have b1 : (C.cr.length : Int) < 9223372036854775807 := by have := HXG.out; omega
  have b2 : (C.sg.length : Int) < 9223372036854775807 := by have := HXG.out; omega
  go_wp2_with fail
  clear v0
  go_loopg [8, 26] C.l.length (fun gi _ vi wr => ∃ (j : Nat) (V : Vm), j ≤ C.l.length ∧ gi = C.l.length - j ∧ vi = .int .i64 (j : Nat) ∧ Wv w1 wr xb C.l.length C.cr.length C.sg.length V j)
  case atStart => exact ⟨0, V0, Nat.zero_le _, rfl, rfl, HW.out⟩
  case round =>
    clear HW
    obtain ⟨j, V, hj, rfl, rfl, hw⟩ := hrel
    by_cases hlt : j < C.l.length
    · obtain ⟨g0, g1, hA0, hA1, hwa, hwb⟩ := hw.put01 hlt
      have v0 : wr.cell? ⟨xb, 0, none⟩ = some (.slice V.A1 V.occ.length V.c1) := hw.sv.is.cell 0
      obtain ⟨g0', e0, ⟨r0, x0⟩, ⟨r1, x1⟩, ⟨r2, x2⟩, z0, z1, z2⟩ := hw.sv.at0 (j := j) (by rw [hw.l0]; exact hlt)
      obtain rfl : g0 = g0' := by rw [hA0] at e0; injection e0 with e; injection e
      obtain ⟨g1', e1, ⟨r3, y0⟩, ⟨r4, y1⟩, ⟨r5, y2⟩, u0, u1, u2⟩ := hwa.sv.at1 (j := j) (by rw [hwa.l1]; exact hlt)
      have e1 : V.A2 = some ⟨g1', 0, none⟩ := e1
      obtain rfl : g1 = g1' := by rw [hA1] at e1; injection e1 with e; injection e
      rw [hA0, hw.l0] at v0
      have v1 : (((wr.setCell ⟨g0, j * 3, none⟩ (.int .i64 1)).setCell ⟨g0, j * 3 + 1, none⟩ (.int .i64 (-1))).setCell ⟨g0, j * 3 + 2, none⟩ (.bool false)).cell? ⟨xb, 1, none⟩ = some (.slice V.A2 V.pos.length V.c2) := hwa.sv.is.cell 1
      rw [hA1, hw.l1] at v1
      have HWB := Lib.hid hwb
      have i1 : (0 : Int) ≤ (j : Int) := by omega
      have i2 : (j : Int) < (C.l.length : Int) := by omega
      have HJ9 := Lib.hid hlt
      have HY := Lib.hid (And.intro y0 (And.intro y1 (And.intro y2 (And.intro u0 (And.intro u1 (And.intro u2 v1))))))
      clear hA0 hA1 e0 e1 hlt hj hw hwa hwb y0 y1 y2 u0 u1 u2 v1
      go_upto_region 8 with fail
      obtain ⟨y0, y1, y2, u0, u1, u2, v1⟩ := HY.out
      have HWB := HWB.out
      generalize (((wr.setCell ⟨g0, j * 3, none⟩ (.int .i64 1)).setCell ⟨g0, j * 3 + 1, none⟩ (.int .i64 (-1))).setCell ⟨g0, j * 3 + 2, none⟩ (.bool false)) = wq at *
      clear HY x0 x1 x2 z0 z1 z2 v0
      have HWB := Lib.hid HWB
      go_wp2_with fail
      go_roundg (C.l.length - (j + 1))
      case measure => have := HJ9.out; omega
      case rel => exact ⟨j + 1, _, HJ9.out, rfl, by go_num, HWB.out⟩
    · have hje : C.l.length = j := by omega
      subst hje
      have HW := Lib.hid hw
      have v2 : wr.cell? ⟨xb, 2, none⟩ = some (.slice V.A3 V.shut.length V.c3) := hw.sv.is.cell 2
      rw [hw.l2] at v2
      clear hj hlt hw
      go_wp2_with fail
      clear v2
      go_loopg [9, 43] C.cr.length (fun gi _ vi wr => ∃ (j : Nat) (V : Vm), j ≤ C.cr.length ∧ gi = C.cr.length - j ∧ vi = .int .i64 (j : Nat) ∧ Wv w1 wr xb C.l.length C.cr.length C.sg.length V C.l.length)
      case atStart => exact ⟨0, V, Nat.zero_le _, rfl, rfl, HW.out⟩
      case round =>
        clear HW
        obtain ⟨j, V, hj, rfl, rfl, hw⟩ := hrel
        by_cases hlt : j < C.cr.length
        · obtain ⟨g0, hA0, hwb⟩ := hw.put2 hlt
          have v0 : wr.cell? ⟨xb, 2, none⟩ = some (.slice V.A3 V.shut.length V.c3) := hw.sv.is.cell 2
          obtain ⟨g0', e0, ⟨r0, x0⟩, ⟨r1, x1⟩, ⟨r2, x2⟩, z0, z1, z2⟩ := hw.sv.at2 (j := j) (by rw [hw.l2]; exact hlt)
          obtain rfl : g0 = g0' := by rw [hA0] at e0; injection e0 with e; injection e
          rw [hA0, hw.l2] at v0
          have HWB := Lib.hid hwb
          have i1 : (0 : Int) ≤ (j : Int) := by omega
          have i2 : (j : Int) < (C.cr.length : Int) := by omega
          have HJ9 := Lib.hid hlt
          clear hA0 e0 hlt hj hw hwb
          go_wp2_with fail
          go_roundg (C.cr.length - (j + 1))
          case measure => have := HJ9.out; omega
          case rel => exact ⟨j + 1, _, HJ9.out, rfl, by go_num, HWB.out⟩
        · have hje : C.cr.length = j := by omega
          subst hje
          have HW := Lib.hid hw
          have v3 : wr.cell? ⟨xb, 3, none⟩ = some (.slice V.A4 V.lamp.length V.c4) := hw.sv.is.cell 3
          rw [hw.l3] at v3
          clear hj hlt hw
          go_wp2_with fail
          clear v3
          go_loopg [10, 55] C.sg.length (fun gi _ vi wr => ∃ (j : Nat) (V : Vm), j ≤ C.sg.length ∧ gi = C.sg.length - j ∧ vi = .int .i64 (j : Nat) ∧ Wv w1 wr xb C.l.length C.cr.length C.sg.length V C.l.length)
          case atStart => exact ⟨0, V, Nat.zero_le _, rfl, rfl, HW.out⟩
          case round =>
            clear HW
            obtain ⟨j, V, hj, rfl, rfl, hw⟩ := hrel
            by_cases hlt : j < C.sg.length
            · obtain ⟨g0, hA0, hwb⟩ := hw.put3 hlt
              have v0 : wr.cell? ⟨xb, 3, none⟩ = some (.slice V.A4 V.lamp.length V.c4) := hw.sv.is.cell 3
              obtain ⟨g0', e0, ⟨r0, x0⟩, ⟨r1, x1⟩, ⟨r2, x2⟩, z0, z1, z2⟩ := hw.sv.at3 (j := j) (by rw [hw.l3]; exact hlt)
              obtain rfl : g0 = g0' := by rw [hA0] at e0; injection e0 with e; injection e
              rw [hA0, hw.l3] at v0
              have HWB := Lib.hid hwb
              have i1 : (0 : Int) ≤ (j : Int) := by omega
              have i2 : (j : Int) < (C.sg.length : Int) := by omega
              have HJ9 := Lib.hid hlt
              clear hA0 e0 hlt hj hw hwb
              go_wp2_with fail
              go_roundg (C.sg.length - (j + 1))
              case measure => have := HJ9.out; omega
              case rel => exact ⟨j + 1, _, HJ9.out, rfl, by go_num, HWB.out⟩
            · have hje : C.sg.length = j := by omega
              subst hje
              have HW := Lib.hid hw
              clear hj hlt hw b1
              have HVW : Hid (Worst V.vp) := Lib.hid (worst_of (fun k hk => HW.out.bad k hk (by rw [← HW.out.l0]; exact hk)) _ _ _)
              have HF := Lib.hid (fr_nil HF.out HW.out.sv.f)
              have HI := Lib.hid (HI.out.fr HW.out.sv.f id)
              have HJ := Lib.hid (HJ.out.fr HW.out.sv.f id)
              have KS := step_any (HC.out.fr HF.out) (HK.out.fr HF.out) HW.out.sv.ok now
              have isv : Is wr xb 83 #[.slice V.A1 V.occ.length V.c1, .slice V.A2 V.pos.length V.c2, .slice V.A3 V.shut.length V.c3, .slice V.A4 V.lamp.length V.c4] := HW.out.sv.is
              unfold Cm.val Cm.arr Km.val Km.arr Vm.val Vm.arr at KS
              obtain ⟨p0, p1, p2, p3, p4, p5, p6, p7, p8⟩ := conf_cells0 HI.out
              obtain ⟨k0, k1, k2, k3, k4, k5, k6⟩ := core_cells (K := K) HJ.out
              obtain ⟨v0, v1, v2, v3⟩ := four isv
              go_wp2_with fail
              refine KS.mono ?_
              rintro _ w5 ⟨K1, A1, c1, rfl, hk1, ho1, hr1, f5⟩
              have HK1 := Lib.hid hk1
              have HR1 := Lib.hid (wide_fr hr1 ((Fr.refl (fun _ => False) w5).alloc (.cells #[.slice K1.A1 K1.own.length K1.c1, .slice K1.A2 K1.rts.length K1.c2, .slice K1.A3 K1.pts.length K1.c3, .slice K1.A4 K1.crs.length K1.c4, .slice K1.A5 K1.lns.length K1.c5, .slice K1.A6 K1.rss.length K1.c6, .bool K1.dirty] 35)) fun _ _ => id)
              have HB1 := Lib.hid (bx_made ho1 f5)
              have HF := Lib.hid (fr_nil HF.out HB1.out.f)
              have HI := Lib.hid (HI.out.fr HB1.out.f id)
              have HJ := Lib.hid (HJ.out.fr HB1.out.f id)
              clear hk1 ho1 hr1 f5 KS isv p0 p1 p2 p3 p4 p5 p6 p7 p8 k0 k1 k2 k3 k4 k5 k6 v0 v1 v2 v3 HW
              unfold Km.val Km.arr
              go_upto_region 21 with fail
              generalize hw6 : World.alloc _ _ = w6 at *
              generalize w5.heap.size = nb at *
              clear hw6
              rcases step_cases2 C.cf V.vp now K.kp with ⟨er, her, hst⟩ | ⟨hfit, htm, hst⟩
              · rw [hst]
                have d1 : (er == 0) = false := by simpa using her
                have d2 : (er != 0) = true := by simpa using her
                clear hst her
                go_wp2_with fail
                go_ret
                exact ⟨rfl, HF.out⟩
              rw [hst] at HK1 HR1 ⊢
              have hop := worst_open (now := now) HVW.out (one_path hfit.chk) hfit.l2
              rw [aspAll_stop C.cf _ _ hop] at HR1 ⊢
              dsimp only at HK1 HR1 ⊢
              rw [List.length_replicate] at HR1 ⊢
              rw [show C.cf.sigs.length = C.sg.length from by unfold Cm.cf; simp] at HR1 ⊢
              have hf1 : FitP C.cf K1.kp := by rw [HK1.out]; exact cyc_fit hfit htm
              have HOW : Hid (WaitsTo C.cf K.kp K.rts.length → K1.own = K.own) := Lib.hid fun h => by
                have e : K1.kp.own = (cycK C.cf V.vp now K.kp).own := by rw [HK1.out]
                exact e.trans (worst_cyc HVW.out fun i hi => h i (by rw [show K.rts.length = C.cf.rts.length from hfit.l2]; exact hi))
              have HOP : Hid (∀ j (hj : j < K1.rts.length), K1.rts[j].st ≠ 2) := Lib.hid fun j hj => by
                have := hop j (by have e : K1.rts.length = C.cf.rts.length := hf1.l2; omega)
                rw [← HK1.out] at this
                have e : rsAt K1.kp j = K1.rts[j] := rsk_at (k := K1.kp) hj
                rw [e] at this
                exact this
              have hlen : K1.rts.length = K.rts.length ∧ C.rs.length = K.rts.length ∧ K.rts.length ≤ 12 ∧ K.own.length ≤ 24 ∧ K1.own.length = K.own.length := by
                have a1 : K1.own.length = C.cf.secs.length := hf1.l1
                have a2 : K.own.length = C.cf.secs.length := hfit.l1
                have a3 : K1.rts.length = C.cf.rts.length := hf1.l2
                have a4 : K.rts.length = C.cf.rts.length := hfit.l2
                have a5 : C.cf.rts.length = C.rs.length := by unfold Cm.cf; simp
                have a6 := right_small hfit.chk
                omega
              have HL := Lib.hid hlen
              have HRT : Hid (∀ i (hi : i < K.rts.length) (hir : i < C.rs.length), (∃ n : Nat, K.rts[i].nxt = (n : Int) ∧ n ≤ C.rs[i].path.length) ∧ ∀ x ∈ C.rs[i].path, 0 ≤ x.sec ∧ x.sec < (K.own.length : Int)) := Lib.hid fun i hi hir => by
                have hic : i < C.cf.rts.length := by rw [← hfit.l2]; exact hi
                have h := hfit.rts i hic hi
                have er : C.cf.rts[i] = C.rs[i].rt := by rw [← rt_mem hic, rt_cf hir]
                rw [er] at h
                have e : K.kp.rts[i] = K.rts[i] := rfl
                rw [e] at h
                unfold rsB tmB inB at h
                simp only [Bool.and_eq_true, decide_eq_true_eq] at h
                have hp := path_in hfit.chk (List.getElem_mem hic)
                rw [er] at hp
                obtain ⟨n, hn⟩ := Int.eq_ofNat_of_zero_le h.2.1.1
                refine ⟨⟨n, hn, ?_⟩, fun x hx => ?_⟩
                · have : K.rts[i].nxt ≤ (C.rs[i].path.length : Int) := h.2.1.2
                  omega
                · have := hp x hx
                  unfold isSecB at this
                  simp only [Bool.and_eq_true, decide_eq_true_eq] at this
                  have a2 : K.own.length = C.cf.secs.length := hfit.l1
                  omega
              obtain ⟨l1, l2, l3, l4, l5⟩ := hlen
              clear hst hop hf1 hfit htm b0
              go_wp2_with fail
              go_loopg [15, 77] C.sg.length (fun gi _ vi wr => ∃ (j : Nat), j ≤ C.sg.length ∧ gi = C.sg.length - j ∧ vi = .int .i64 (j : Nat) ∧ Fr (fun _ => False) w6 wr)
              case atStart => exact ⟨0, Nat.zero_le _, rfl, rfl, Fr.refl _ _⟩
              case round =>
                obtain ⟨j, hj, rfl, rfl, f⟩ := hrel
                by_cases hlt : j < C.sg.length
                · obtain ⟨g1, o1, hA1, q1⟩ := rd_int (l := List.replicate C.sg.length (0 : Int)) ((wide_rd HR1.out).fr f fun _ _ => id) (by rw [List.length_replicate]; exact hlt)
                  rw [List.getElem_replicate] at q1
                  have i1 : (0 : Int) ≤ (j : Int) := by omega
                  have i2 : (j : Int) < (C.sg.length : Int) := by omega
                  have HJ9 := Lib.hid hlt
                  have HFW := Lib.hid f
                  have HA1 := Lib.hid hA1
                  rw [hA1]
                  clear hA1 hlt f hj
                  go_wp2_with fail
                  rw [← HA1.out]
                  go_roundg (C.sg.length - (j + 1))
                  case measure => have := HJ9.out; omega
                  case rel => exact ⟨j + 1, HJ9.out, rfl, by go_num, HFW.out⟩
                · have hje : C.sg.length = j := by omega
                  subst hje
                  clear hj hlt
                  have HFd := Lib.hid f
                  have k1 : wr.cell? ⟨cb + 1, 1, none⟩ = some (.slice K.A2 K.rts.length K.c2) := (HJ.out.fr f id).cell 1
                  clear f
                  go_wp2_with fail
                  clear k1
                  go_loopg [16, 87] K.rts.length (fun gi _ vi wr => ∃ (j : Nat), j ≤ K.rts.length ∧ gi = K.rts.length - j ∧ vi = .int .i64 (j : Nat) ∧ Fr (fun _ => False) w6 wr)
                  case atStart => exact ⟨0, Nat.zero_le _, rfl, rfl, HFd.out⟩
                  case round =>
                    obtain ⟨j, hj, rfl, rfl, f⟩ := hrel
                    by_cases hlt : j < K.rts.length
                    · have hlt1 : j < K1.rts.length := by omega
                      have hbx := HB1.out.fr f
                      obtain ⟨g1, o1, hA1, q1, q2, q3, q4⟩ := rd_rs (wide_rd hbx.own.rts) hlt1
                      have n1 : wr.cell? ⟨nb, 1, none⟩ = some (.slice K1.A2 K1.rts.length K1.c2) := hbx.is.cell 1
                      rw [hA1] at n1
                      have hne := HOP.out j hlt1
                      have i1 : (0 : Int) ≤ (j : Int) := by omega
                      have i2 : (j : Int) < (K1.rts.length : Int) := by omega
                      have i3 : (j : Int) < (K.rts.length : Int) := by omega
                      have HJ9 := Lib.hid hlt
                      have HFW := Lib.hid f
                      generalize K1.rts[j] = y at *
                      obtain ⟨y0, y1, y2, y3⟩ := y
                      dsimp only at q1 q2 q3 q4 hne
                      have d1 : (y0 == 2) = false := by simpa using hne
                      clear hA1 hbx hlt f hj hlt1 hne
                      go_wp2_with fail
                      go_roundg (K.rts.length - (j + 1))
                      case measure => have := HJ9.out; omega
                      case rel => exact ⟨j + 1, HJ9.out, rfl, by go_num, HFW.out⟩
                    · have hje : K.rts.length = j := by omega
                      subst hje
                      clear hj hlt
                      have HFe := Lib.hid f
                      have k1 : wr.cell? ⟨cb + 1, 1, none⟩ = some (.slice K.A2 K.rts.length K.c2) := (HJ.out.fr f id).cell 1
                      clear f
                      go_wp2_with fail
                      clear k1
                      go_loopg [17, 18, 101] K.rts.length (fun gi _ _ vi wr => ∃ (j : Nat), j ≤ K.rts.length ∧ gi = K.rts.length - j ∧ vi = .int .i64 (j : Nat) ∧ Fr (fun _ => False) w6 wr ∧ WaitsTo C.cf K.kp j)
                      case atStart => exact ⟨0, Nat.zero_le _, rfl, rfl, HFe.out, fun i hi => by omega⟩
                      case round =>
                        obtain ⟨j, hj, rfl, rfl, f, hwt⟩ := hrel
                        by_cases hlt : j < K.rts.length
                        · have hir : j < C.rs.length := by omega
                          have fw := fr_nil HF.out f
                          obtain ⟨g2, o2, hA2, s0, s1, s2, s3⟩ := rd_rs ((HK.out.fr fw).rts) hlt
                          obtain ⟨⟨n, hn, hnl⟩, hps⟩ := HRT.out j hlt hir
                          have e4 : rsAt K.kp j = K.rts[j] := rsk_at (k := K.kp) hlt
                          have e6 : rtAt C.cf j = C.rs[j].rt := rt_cf hir
                          have hstp : ((rsAt K.kp j).st = 4 → (rsAt K.kp j).nxt ≠ (rtAt C.cf j).path.length ∧ ownAt K.kp.own (nxtSec C.cf K.kp j) = (j : Int) + 1) → WaitsTo C.cf K.kp (j + 1) := hwt.step
                          have hsec : ∀ (hlp : n < C.rs[j].path.length), nxtSec C.cf K.kp j = C.rs[j].path[n].sec := fun hlp => by
                            unfold nxtSec pathL
                            rw [e4, hn, Int.toNat_natCast, e6]
                            show (C.rs[j].path.map St.sec).getD n 0 = _
                            rw [List.getD_eq_getElem?_getD, List.getElem?_map, List.getElem?_eq_getElem hlp]
                            rfl
                          rw [e4, e6] at hstp
                          have HST0 := Lib.hid hstp
                          have HSEC := Lib.hid hsec
                          have HN := Lib.hid hn
                          have HNL := Lib.hid hnl
                          have HPS := Lib.hid hps
                          have HJ9 := Lib.hid hlt
                          have HFW := Lib.hid f
                          have HA2 := Lib.hid hA2
                          have HIR := Lib.hid hir
                          have i1 : (0 : Int) ≤ (j : Int) := by omega
                          have i2 : (j : Int) < (K.rts.length : Int) := by omega
                          have i3 : (j : Int) < (C.rs.length : Int) := by omega
                          have i4 : (j : Int) ≤ 12 := by omega
                          rw [hA2]
                          generalize hR : K.rts[j] = R at *
                          obtain ⟨st, since, nxt, mark⟩ := R
                          dsimp only at s0 s1 s2 s3 HN HST0
                          clear hA2 hj hwt hstp hsec hn hnl hps e4 e6 hlt f fw hR
                          go_upto_region 38 with fail
                          have fa := (Fr.refl (fun _ => False) wr).alloc (.cells #[.int .i64 st, .int .i64 since, .int .i64 nxt, .int .i64 mark] 46)
                          have ibx := Is.new wr 46 #[.int .i64 st, .int .i64 since, .int .i64 nxt, .int .i64 mark]
                          obtain ⟨b9, -, b8, -⟩ := four ibx
                          have HFX := Lib.hid (fr_nil HFW.out fa)
                          clear fa ibx s0 s1 s2 s3
                          generalize wr.alloc _ = wa at *
                          generalize wr.heap.size = ab at *
                          by_cases hst : st = 4
                          rotate_left
                          · have d1 : (st == 4) = false := by simpa using hst
                            have HST : Hid (WaitsTo C.cf K.kp (j + 1)) := Lib.hid (HST0.out fun h => absurd h hst)
                            clear hst
                            go_quiet (fail)
                            go_wp2_with fail
                            rw [← HA2.out]
                            go_roundg (K.rts.length - (j + 1))
                            case measure => have := HJ9.out; omega
                            case rel => exact ⟨j + 1, HJ9.out, rfl, by go_num, HFX.out.drewN nq, HST.out⟩
                          subst hst
                          have fw := fr_nil HF.out HFX.out
                          obtain ⟨g5, o5, hA5, -, -, pth, -⟩ := rd_ro ((HC.out.fr fw).rts) HIR.out
                          have c4 : wa.cell? ⟨cb, 4, none⟩ = some (.slice C.A5 C.rs.length C.c5) := (HI.out.fr HFX.out id).cell 4
                          have k0 : wa.cell? ⟨cb + 1, 0, none⟩ = some (.slice K.A1 K.own.length K.c1) := (HJ.out.fr HFX.out id).cell 0
                          have hpath := ((HC.out.fr fw).each _ (List.getElem_mem HIR.out)).path
                          have hb1 := ((HC.out.fr fw).each _ (List.getElem_mem HIR.out)).b1
                          have hq9 : (C.rs[j].path.length : Int) < 9223372036854775807 := by omega
                          have hle := HNL.out
                          rw [hA5] at c4
                          have hnx : nxt = (n : Int) := HN.out
                          by_cases hlp : n < C.rs[j].path.length
                          rotate_left
                          · have d2 : decide ((C.rs[j].path.length : Int) ≤ nxt) = true := by rw [decide_eq_true_iff]; omega
                            clear hlp hpath hb1 hA5 fw hle hnx
                            generalize C.rs[j] = q at *
                            go_quiet (fail)
                            go_wp2_with fail
                            go_ret
                            exact ⟨rfl, (fr_nil HF.out HFX.out).drewN nq⟩
                          have d2 : decide ((C.rs[j].path.length : Int) ≤ nxt) = false := by rw [decide_eq_false_iff_not]; omega
                          obtain ⟨gp, op, hAP, y0, y1, y2⟩ := rd_st hpath hlp
                          have hs9 : nxtSec C.cf K.kp j = (C.rs[j].path[n]).sec := HSEC.out hlp
                          have hin : 0 ≤ (C.rs[j].path[n]).sec ∧ (C.rs[j].path[n]).sec < (K.own.length : Int) := HPS.out _ (List.getElem_mem hlp)
                          replace y0 : wa.cell? ⟨gp, op + n * 3, none⟩ = some (.int .i64 (C.rs[j].path[n]).sec) := y0
                          obtain ⟨x, hx⟩ := Int.eq_ofNat_of_zero_le hin.1
                          have hxl : x < K.own.length := by omega
                          obtain ⟨g1, o1, hA1, q1⟩ := rd_int ((HK.out.fr fw).own) hxl
                          have hox : ownAt K.kp.own (nxtSec C.cf K.kp j) = K.own[x] := by rw [hs9, hx]; exact own_at hxl
                          have hne : nxt ≠ (C.rs[j].path.length : Int) := by omega
                          have HST9 : Hid (K.own[x] = (j : Int) + 1 → WaitsTo C.cf K.kp (j + 1)) := Lib.hid fun h => HST0.out fun _ => ⟨hne, hox.trans h⟩
                          rw [hA1] at k0
                          rw [hAP] at pth
                          rw [hx] at y0
                          have j1 : (0 : Int) ≤ nxt := by omega
                          have j2 : nxt < (C.rs[j].path.length : Int) := by omega
                          have j3 : (0 : Int) ≤ (x : Int) := by omega
                          have j4 : (x : Int) < (K.own.length : Int) := by omega
                          rw [← show nxt.toNat = n by omega] at y0
                          have eh : IntKind.i64.wrap ((j : Int) + 1) = (j : Int) + 1 := IntWalk.i64_in _ ⟨by omega, by omega⟩
                          have HNX := Lib.hid hnx
                          clear hnx
                          generalize K.own[x] = z at *
                          have HOX := Lib.hid hox
                          clear hA5 hA1 hAP hlp hpath hb1 fw hle hs9 hin hx hxl hox hne y1 y2 HST0
                          generalize C.rs[j] = q at *
                          by_cases hz : z = (j : Int) + 1
                          rotate_left
                          · have d3 : (z != (j : Int) + 1) = true := by simpa using hz
                            clear hz
                            go_quiet (fail)
                            go_wp2_with fail
                            go_ret
                            exact ⟨rfl, (fr_nil HF.out HFX.out).drewN nq⟩
                          have d3 : (z != (j : Int) + 1) = false := by simpa using hz
                          have HST : Hid (WaitsTo C.cf K.kp (j + 1)) := Lib.hid (HST9.out hz)
                          clear hz HST9
                          go_quiet (fail)
                          go_wp2_with fail
                          rw [← HA2.out]
                          go_roundg (K.rts.length - (j + 1))
                          case measure => have := HJ9.out; omega
                          case rel => exact ⟨j + 1, HJ9.out, rfl, by go_num, HFX.out.drewN nq, HST.out⟩
                        · have hje : K.rts.length = j := by omega
                          subst hje
                          have HFf := Lib.hid f
                          have n0 : wr.cell? ⟨nb, 0, none⟩ = some (.slice K1.A1 K1.own.length K1.c1) := (HB1.out.fr f).is.cell 0
                          have k0 : wr.cell? ⟨cb + 1, 0, none⟩ = some (.slice K.A1 K.own.length K.c1) := (HJ.out.fr f id).cell 0
                          have how := HOW.out hwt
                          have KI := sameints_any (c := K1.c1) (c' := K.c1) (l := K.own) (wide_rd (HB1.out.fr f).own.own |> fun h => by rw [how] at h; exact h) ((HK.out.fr (fr_nil HF.out f)).own) (by omega)
                          rw [how] at n0
                          clear hj hlt f hwt how
                          go_wp2_with fail
                          refine KI.mono ?_
                          rintro _ w7 ⟨rfl, f7⟩
                          clear KI n0 k0
                          go_wp2_with fail
                          go_ret
                          exact ⟨rfl, fr_nil (fr_nil HF.out HFf.out) f7⟩
end Go.Proofs.YtginfnbdnkgjbaaGreat.Nk
/- A configuration that came in, of small bulk: how many things it holds in all. -/
namespace Go.Proofs.YtginfnbdnkgjbaaGreat
open Go.RowKit

theorem bulk_pos {H : Type} (d : DataW H) : 1 ≤ Rows.uptoBulk d := by
  cases d with
  | lit l => cases l <;> simp [Rows.uptoBulk]
  | _ => simp [Rows.uptoBulk]
theorem bulk_len {H : Type} : ∀ es : List (DataW H), es.length ≤ Rows.uptoBulkAll es
  | [] => Nat.le_refl _
  | d :: r => by
    have ih := bulk_len r
    have h1 := bulk_pos d
    simp only [Rows.uptoBulkAll, List.length_cons]
    omega
theorem sl_small {H : Type} {d : DataW H} {n : Nat} (h : SL d n) : n ≤ Rows.uptoBulk d := by
  rcases h with ⟨_, rfl⟩ | ⟨es, rest, rfl, rfl⟩
  · exact Nat.zero_le _
  · have := bulk_len es
    simp only [Rows.uptoBulk]
    omega
/-- how many things a route holds -/
def Ro.total (r : Ro) : Nat := 1 + r.path.length + r.flank.length + r.over.length
def totalR : List Ro → Nat
  | [] => 0
  | r :: l => r.total + totalR l
/-- how many things a configuration holds -/
def Cm.total (C : Cm) : Nat := C.l.length + C.js.length + C.sg.length + C.cr.length + totalR C.rs
theorem ro_small {H : Type} {w : World} {r : Ro} {d : DataW H} (h : RoIn w r d) : r.total ≤ Rows.uptoBulk d := by
  obtain ⟨_, d0, d1, d2, d3, d4, d5, rfl, s2, s3, s4⟩ := h
  have a := sl_small s2
  have b := sl_small s3
  have c := sl_small s4
  unfold Ro.total
  simp only [Rows.uptoBulk, Rows.uptoBulkAll]
  omega
theorem ros_small {H : Type} {w : World} : ∀ (l : List Ro) (es : List (DataW H)), es.length = l.length → (∀ i (hi : i < l.length), ∃ x, es[i]? = some x ∧ RoIn w l[i] x) → totalR l ≤ Rows.uptoBulkAll es
  | [], _, _, _ => Nat.zero_le _
  | r :: l, [], hl, _ => by simp at hl
  | r :: l, e :: es, hl, h => by
    obtain ⟨x, hx, hr⟩ := h 0 (by simp)
    simp only [List.getElem?_cons_zero, Option.some.injEq] at hx
    subst hx
    have a := ro_small hr
    have b := ros_small l es (by simpa using hl) fun i hi => by
      obtain ⟨x, hx, hr⟩ := h (i + 1) (by simpa using hi)
      exact ⟨x, by simpa using hx, by simpa using hr⟩
    simp only [totalR, Rows.uptoBulkAll]
    simp only [List.getElem_cons_zero] at a
    omega
theorem totalR_mem : ∀ (l : List Ro) (r : Ro), r ∈ l → r.total ≤ totalR l
  | r :: l, q, h => by
    simp only [totalR]
    rcases List.mem_cons.1 h with rfl | h
    · omega
    · have := totalR_mem l q h
      omega
theorem totalR_len : ∀ l : List Ro, l.length ≤ totalR l
  | [] => Nat.le_refl _
  | r :: l => by
    have := totalR_len l
    simp only [totalR, List.length_cons, Ro.total]
    omega
theorem conf_total {H : Type} {w : World} {C : Cm} {d : DataW H} (h : CfIn w C d) : C.total ≤ Rows.uptoBulk d := by
  obtain ⟨d1, d2, d3, d4, d5, d6, rfl, s1, s2, s3, s4, s5⟩ := h.data
  have a1 := sl_small s1
  have a2 := sl_small s2
  have a3 := sl_small s3
  have a4 := sl_small s4
  have a5 : totalR C.rs ≤ Rows.uptoBulk d5 := by
    rcases s5 with ⟨_, e⟩ | ⟨es, rest, rfl, hl, he⟩
    · rw [e]; exact Nat.zero_le _
    · have := ros_small C.rs es hl he
      simp only [Rows.uptoBulk]
      omega
  unfold Cm.total
  simp only [Rows.uptoBulk, Rows.uptoBulkAll]
  omega
/-- what came in, of small bulk, is a configuration that the contracts take -/
theorem small_conf {H : Type} {w : World} {C : Cm} {d : DataW H} {ds : List (DataW H)} (hk : Rows.uptoSmall H (d :: ds) = true) (h : CfIn w C d) : C.Ok w ∧ C.total ≤ 1048576 := by
  have hk2 : Rows.uptoBulkAll (d :: ds) ≤ 1048576 := of_decide_eq_true hk
  simp only [Rows.uptoBulkAll] at hk2
  have ht := conf_total h
  have m1 := h.m1
  have m2 := h.m2
  have m3 := h.m3
  have m4 := h.m4
  have m5 := h.m5
  unfold maxLen at m1 m2 m3 m4 m5
  have hl := totalR_len C.rs
  have htt : C.total = C.l.length + C.js.length + C.sg.length + C.cr.length + totalR C.rs := rfl
  refine ⟨⟨h.secs, h.jos, h.sigs, h.crs, h.rts, fun r hr => ?_, h.l1, h.l2, h.l3, h.l4, h.l5, by omega, by omega, by omega, by omega, by omega, by omega, by omega, by omega, by omega, by omega⟩, by omega⟩
  have hrt := totalR_mem C.rs r hr
  have hre : r.total = 1 + r.path.length + r.flank.length + r.over.length := rfl
  obtain ⟨d1, d2, d3, d4, d5, d6, rfl, s1, s2, s3, s4, s5⟩ := h.data
  rcases s5 with ⟨_, e⟩ | ⟨es, rest, rfl, _, he⟩
  · rw [e] at hr; cases hr
  · obtain ⟨i, hi, rfl⟩ := List.mem_iff_getElem.1 hr
    obtain ⟨x, hxi, ⟨r1, r2, r3, i1, i2, i3, n1, n2, n3⟩, _⟩ := he i hi
    unfold maxLen at n1 n2 n3
    exact ⟨r1, r2, r3, i1, i2, i3, by omega, by omega, by omega, by omega, by omega, by omega⟩
end Go.Proofs.YtginfnbdnkgjbaaGreat
namespace Go.Proofs.YtginfnbdnkgjbaaGreat.Nk
open Go.RowKit Lk
/-- what came in, of small bulk, is a state that the contracts take -/
theorem small_core {H : Type} {w : World} {K : Km} {d0 d : DataW H} {ds : List (DataW H)} (hk : Rows.uptoSmall H (d0 :: d :: ds) = true) (h : CoIn w K d) : K.Ok w := by
  have hk2 : Rows.uptoBulkAll (d0 :: d :: ds) ≤ 1048576 := of_decide_eq_true hk
  obtain ⟨d1, d2, d3, d4, d5, d6, d7, rfl, s1, s2, s3, s4, s5, s6⟩ := h.data
  have a1 := sl_small s1
  have a2 := sl_small s2
  have a3 := sl_small s3
  have a4 := sl_small s4
  have a5 := sl_small s5
  have a6 := sl_small s6
  simp only [Rows.uptoBulkAll, Rows.uptoBulk] at hk2
  exact ⟨h.own, h.rts, h.pts, h.crs, h.lns, h.rss, by omega, by omega, by omega, by omega, by omega, by omega⟩
end Go.Proofs.YtginfnbdnkgjbaaGreat.Nk
/- KernelWorst (P14.4): with all looks at their worst nothing shows, no route is open, nothing goes free but what was clear and waited for nothing any more. For every configuration, state and time of a bulk up to 1048576. -/
namespace Go.Proofs.YtginfnbdnkgjbaaGreat.kernelWorst
open Go.ChangeShapes Go.WideShapes Go.ChangeAt Go.RowKit
open Go.ChangeMaps (open_string shut_string)

theorem q1 : (Rows.kernelWorstUptoRow.inPlace == Tryz.checked.prog.inPlace 13) = true := by kernel_rfl
theorem q2 : (Rows.kernelWorstUptoRow.unfollowed == Tryz.checked.prog.unfollowed 13) = true := by kernel_rfl
theorem q3 : (Rows.kernelWorstUptoRow.recurses == Tryz.checked.prog.recurses 13) = true := by kernel_rfl
theorem q4 : (Rows.kernelWorstUptoRow.named == Tryz.checked.prog.varsNamed 13) = true := by kernel_rfl
theorem closed : joinedFacts Tryz.checked.prog 13 Tryz.f13 (Rows.OpenSpec.upto Rows.kernelWorstSpec).bare Rows.kernelWorstUptoRow = true := by
  unfold joinedFacts
  simp only [Bool.and_eq_true]
  and_intros
  · kernel_rfl
  · exact Lk.pf1
  · exact Lk.pf2
  · kernel_rfl
  · kernel_rfl
  · kernel_rfl
  · kernel_rfl
  · kernel_rfl
  · kernel_rfl
  · exact q1
  · exact q2
  · exact q3
  · exact q4
  · kernel_rfl
  · kernel_rfl
  · kernel_rfl
  · kernel_rfl
  · kernel_rfl
  · kernel_rfl
  · kernel_rfl
  · kernel_rfl
  · kernel_rfl
  · kernel_rfl
  · kernel_rfl
  · exact Lk.pf3
  · exact Lk.pf4
  · exact Lk.pf5
  · kernel_rfl
  · kernel_rfl
  · kernel_rfl
  · kernel_rfl
  · kernel_rfl

set_option maxRecDepth 100000 in
theorem contract (H : Type) (enc : TypeId × Value → H) (W : World) (base : Nat) (args : Array Value) (ds gs : List (DataW H)) (before : List MemPlace)
    (hval : ∀ (j : Nat) t v, Tryz.f13.params[j]? = some t → args[j]? = some v → Value.okWide Tryz.prog W .any base t v)
    (hW : DataW.Whole enc Tryz.prog Tryz.f13.params.toList Rows.kernelWorstSpec.vars false W args.toList ds gs before) (hk : Rows.uptoSmall H (ds ++ gs) = true) :
    Calls Tryz.prog 13 args W fun e W' => ∃ v, e = .returned v ∧ Rows.kernelWorstSpec.post enc Tryz.prog Tryz.f13 false true false false W args v W' := by
  have hW' := hW
  obtain ⟨p, q, hA0, hV, rfl, hfz, hnd⟩ := hW
  have hA : DataW.TrodAll enc Tryz.prog W 0 (fun _ => true) true Tryz.f13.params.toList args.toList ds p := hA0
  rw [Tryz.params13] at hA hval
  obtain ⟨v0, v1, v2, d0, d1, d2, p0, p1, p2, rfl, rfl, rfl, h0, h1, h2⟩ := trodAll_three hA
  obtain ⟨rfl, rfl⟩ := trodVars_none hV
  obtain ⟨x0, rfl, i0⟩ := open_conf (hval 0 30 v0 rfl rfl) h0
  obtain ⟨x1, rfl, i1⟩ := Nk.open_core (hval 1 35 v1 rfl rfl) h1
  obtain ⟨a2, rfl, rfl, rfl, w2⟩ := open_int Tryz.underlying3 (hval 2 3 v2 rfl rfl) h2
  have b2 : -9223372036854775808 ≤ a2 ∧ a2 ≤ 9223372036854775807 := by
    simp only [Lit.wf, IntKind.min, IntKind.max, IntKind.signed, IntKind.bits, Bool.and_eq_true, decide_eq_true_eq, if_true] at w2
    have := w2.1
    have := w2.2
    omega
  rw [List.append_nil] at hk
  obtain ⟨z0, y0⟩ := small_conf hk i0
  have z1 := Nk.small_core hk i1
  refine (Lk.toB (Nk.worst_walk z0 z1 (by have := y0; unfold Cm.total at this; omega) (by have := y0; unfold Cm.total at this; omega) a2)).mono fun e W' ⟨he, hb⟩ => ?_
  subst he
  exact law_post hW' rfl (by kernel_rfl) (by rw [Tryz.params13]; exact of_decide_eq_true (by kernel_rfl)) rfl rfl rfl hb

set_option maxRecDepth 100000 in
theorem lifted (os : Os) (started : os.Started) (H : Type) (enc : TypeId × Value → H) (F : Stop.Interp) :
    ReturnsInHanded {} Tryz.checked os 13 .any ((Rows.OpenSpec.upto Rows.kernelWorstSpec).pre6 enc Tryz.prog Tryz.f13 Rows.kernelWorstUptoRow.domain false) (((Rows.OpenSpec.upto Rows.kernelWorstSpec).at F).post enc Tryz.prog Tryz.f13 false true false false) := by
  refine returnsInHanded_of_cond (C := Tryz.checked) (s := Rows.OpenSpec.upto Rows.kernelWorstSpec) (k := Rows.uptoSmall) rfl Tryz.own started (by kernel_rfl) Tryz.func13
    (OpenSpec.witness (enc := enc) (C := Tryz.checked) (s := Rows.OpenSpec.upto Rows.kernelWorstSpec) (k := Rows.uptoSmall) rfl false ⟨#[], #[.agg #[.slice none 0 0, .slice none 0 0, .slice none 0 0, .slice none 0 0, .slice none 0 0, .int .i64 0, .int .i64 0, .int .i64 0, .int .i64 0], .agg #[.slice none 0 0, .slice none 0 0, .slice none 0 0, .slice none 0 0, .slice none 0 0, .slice none 0 0, .bool false], .int .i64 0], []⟩ 8 (by kernel_rfl) (by kernel_rfl) (by kernel_rfl)
      (x := ([.agg [.nil, .nil, .nil, .nil, .nil, .agg [.lit (.int .i64 0), .lit (.int .i64 0), .lit (.int .i64 0), .lit (.int .i64 0)]], .agg [.nil, .nil, .nil, .nil, .nil, .nil, .lit (.bool false)], .lit (.int .i64 0)], [], [])) (by kernel_rfl) rfl (by kernel_rfl)) ?_
  intro W base args ds gs before hval hW _ hk _
  exact contract H enc W base args ds gs before hval hW hk

theorem proved : Rows.KernelWorstUptoSaid :=
  OpenClaim.holds_of_cond 13 Tryz.f13 rfl rfl rfl rfl rfl rfl rfl ⟨rfl, rfl, rfl, rfl, rfl⟩ rfl rfl rfl rfl rfl (by kernel_rfl) Tryz.func13 closed
    (of_decide_eq_true (by kernel_rfl)) (by unfold Func.isWrapper; first | (rw [if_pos (by decide +kernel)]; kernel_rfl) | (rw [if_neg (by decide +kernel)]; exact ⟨rfl, rfl⟩))
    (fun os started H enc _ F => lifted os started H enc F)
end Go.Proofs.YtginfnbdnkgjbaaGreat.kernelWorst

/- The image as it is kept: its plain data, and the memory in which it lies. -/
import Derived.Test.YtfmhfngilimhjaaKo
import Derived.Test.YtfmhfngilimhjaaTf
namespace Go.Proofs.Ytfmhfngilimhjaa.Te
theorem L3.Ok.fr' {w w1 : World} {x : L3} {S : Nat → Prop} (h : x.Ok w) (f : Fr S w w1) (hn : 0 < x.l.length → ∀ k, blk x.A = some k → ¬ S k) : x.Ok w1 := by
  by_cases h0 : 0 < x.l.length
  · exact h.fr f (hn h0)
  · refine ⟨fun k => ?_, h.le, fun k => absurd k h0⟩
    rw [List.length_map] at k
    exact absurd k h0
/-- what it holds lies in none of these blocks -/
def L3.Off (x : L3) (S : Nat → Prop) : Prop := 0 < x.l.length → ∀ q, blk x.A = some q → ¬ S q
theorem L3.Off.mono {x : L3} {S S' : Nat → Prop} (h : x.Off S) (hs : ∀ q, S' q → S q) : x.Off S' := fun h0 q hq k => h h0 q hq (hs q k)
theorem L3.Ok.off_new {w : World} {x : L3} (h : x.Ok w) {S : Nat → Prop} (hs : ∀ q, S q → w.heap.size ≤ q) : x.Off S := fun h0 q hq k => by
  have := h.lt h0 q hq
  have := hs q k
  omega
theorem L3.Off.or {x : L3} {S S' : Nat → Prop} (h : x.Off S) (k : x.Off S') : x.Off fun q => S q ∨ S' q := fun h0 q hq c => by
  rcases c with c | c
  · exact h h0 q hq c
  · exact k h0 q hq c
structure Sta.Off (x : Sta) (S : Nat → Prop) : Prop where
  occ : x.occ.Off S
  pos : x.pos.Off S
  shut : x.shut.Off S
  lamp : x.lamp.Off S
theorem Sta.Ok.off {w w1 : World} {x : Sta} {S : Nat → Prop} (h : x.Ok w) (f : Fr S w w1) (o : x.Off S) : x.Ok w1 := ⟨h.occ.fr' f o.occ, h.pos.fr' f o.pos, h.shut.fr' f o.shut, h.lamp.fr' f o.lamp⟩
theorem Sta.Off.mono {x : Sta} {S S' : Nat → Prop} (h : x.Off S) (hs : ∀ q, S' q → S q) : x.Off S' := ⟨h.occ.mono hs, h.pos.mono hs, h.shut.mono hs, h.lamp.mono hs⟩
theorem Sta.Off.or {x : Sta} {S S' : Nat → Prop} (h : x.Off S) (k : x.Off S') : x.Off fun q => S q ∨ S' q := ⟨h.occ.or k.occ, h.pos.or k.pos, h.shut.or k.shut, h.lamp.or k.lamp⟩
theorem Sta.Ok.off_new {w : World} {x : Sta} (h : x.Ok w) {S : Nat → Prop} (hs : ∀ q, S q → w.heap.size ≤ q) : x.Off S := ⟨h.occ.off_new hs, h.pos.off_new hs, h.shut.off_new hs, h.lamp.off_new hs⟩
/-- its lists are newer than these blocks -/
theorem Sta.New.off' {x : Sta} {S : Nat → Prop} {z : Nat} (h : x.New z) (hs : ∀ q, z ≤ q → ¬ S q) : x.Off S := ⟨fun _ q hq => hs q (h.1 q hq), fun _ q hq => hs q (h.2.1 q hq), fun _ q hq => hs q (h.2.2.1 q hq), fun _ q hq => hs q (h.2.2.2 q hq)⟩
theorem Sta.New.off {x : Sta} {S : Nat → Prop} {z : Nat} (h : x.New z) (hs : ∀ q, S q → q < z) : x.Off S := h.off' fun q hq k => by have := hs q k; omega
theorem nilSta_off (S : Nat → Prop) : nilSta.Off S := ⟨fun h => absurd h (Nat.lt_irrefl 0), fun h => absurd h (Nat.lt_irrefl 0), fun h => absurd h (Nat.lt_irrefl 0), fun h => absurd h (Nat.lt_irrefl 0)⟩
theorem Sta.New.mono {x : Sta} {z z' : Nat} (h : x.New z) (hz : z' ≤ z) : x.New z' := ⟨fun q hq => Nat.le_trans hz (h.1 q hq), fun q hq => Nat.le_trans hz (h.2.1 q hq), fun q hq => Nat.le_trans hz (h.2.2.1 q hq), fun q hq => Nat.le_trans hz (h.2.2.2 q hq)⟩
def St.hs (x : St) : Hs := ⟨x.occ.length, x.pos.length, x.shut.length, x.lamp.length⟩
theorem Sta.sh_hs (x : Sta) : x.sh.hs = x.st.hs := rfl
theorem Sta.sh_val (x : Sta) : x.sh.val = x.val := rfl
theorem ex_sta {P : Sta → Prop} (h : ∃ x, P x) : ∃ x0 x1 x2 x3 : L3, P ⟨x0, x1, x2, x3⟩ := by
  obtain ⟨⟨a, b, c, d⟩, h⟩ := h
  exact ⟨a, b, c, d, h⟩
theorem rstatus_x {x : Sta} {w0 : World} (hx : x.Ok w0) (s : ByteArray) (w : World) :
    Calls Try.prog 72 #[.agg #[.slice x.occ.A x.occ.l.length x.occ.c, .slice x.pos.A x.pos.l.length x.pos.c, .slice x.shut.A x.shut.l.length x.shut.c, .slice x.lamp.A x.lamp.l.length x.lamp.c], .string s] w fun e w' => ∃ x0 x1 x2 x3 : L3, e = .returned (.tuple #[.agg #[.slice x0.A x0.l.length x0.c, .slice x1.A x1.l.length x1.c, .slice x2.A x2.l.length x2.c, .slice x3.A x3.l.length x3.c], .int .i64 (rstL x.st.hs (bytesOf s)).2]) ∧ (Sta.mk x0 x1 x2 x3).st = (rstL x.st.hs (bytesOf s)).1 ∧ (Sta.mk x0 x1 x2 x3).Ok w' ∧ (Sta.mk x0 x1 x2 x3).New w.heap.size ∧ Fr (fun _ => False) w w' :=
  (rstatus_new hx.sh s w).mono fun _ _ k => ex_sta k
end Go.Proofs.Ytfmhfngilimhjaa.Te

namespace Go.Proofs.Ytfmhfngilimhjaa
theorem Is.far10 {w : World} {b g : Nat} {t : TypeId} {cs : Array Value} (h : Is w b t cs) (hg : b ≠ g) {o0 o1 o2 o3 o4 o5 o6 o7 o8 o9 : Nat} {v0 v1 v2 v3 v4 v5 v6 v7 v8 v9 : Value} : Is ((((((((((w.setCell ⟨g, o0, none⟩ v0).setCell ⟨g, o1, none⟩ v1).setCell ⟨g, o2, none⟩ v2).setCell ⟨g, o3, none⟩ v3).setCell ⟨g, o4, none⟩ v4).setCell ⟨g, o5, none⟩ v5).setCell ⟨g, o6, none⟩ v6).setCell ⟨g, o7, none⟩ v7).setCell ⟨g, o8, none⟩ v8).setCell ⟨g, o9, none⟩ v9) b t cs := ((((((((((h.far (p := ⟨g, o0, none⟩) hg v0).far (p := ⟨g, o1, none⟩) hg v1).far (p := ⟨g, o2, none⟩) hg v2).far (p := ⟨g, o3, none⟩) hg v3).far (p := ⟨g, o4, none⟩) hg v4).far (p := ⟨g, o5, none⟩) hg v5).far (p := ⟨g, o6, none⟩) hg v6).far (p := ⟨g, o7, none⟩) hg v7).far (p := ⟨g, o8, none⟩) hg v8).far (p := ⟨g, o9, none⟩) hg v9)
theorem Is.set10 {w : World} {b : Nat} {t : TypeId} {a0 a1 a2 a3 a4 a5 a6 a7 a8 a9 v0 v1 v2 v3 v4 v5 v6 v7 v8 v9 : Value} (h : Is w b t #[a0, a1, a2, a3, a4, a5, a6, a7, a8, a9]) : Is ((((((((((w.setCell ⟨b, 0, none⟩ v0).setCell ⟨b, 1, none⟩ v1).setCell ⟨b, 2, none⟩ v2).setCell ⟨b, 3, none⟩ v3).setCell ⟨b, 4, none⟩ v4).setCell ⟨b, 5, none⟩ v5).setCell ⟨b, 6, none⟩ v6).setCell ⟨b, 7, none⟩ v7).setCell ⟨b, 8, none⟩ v8).setCell ⟨b, 9, none⟩ v9) b t #[v0, v1, v2, v3, v4, v5, v6, v7, v8, v9] := by
  have h0 : Is (w.setCell ⟨b, 0, none⟩ v0) b t #[v0, a1, a2, a3, a4, a5, a6, a7, a8, a9] := by
    have := h.set 0 v0
    simpa using this
  have h1 : Is ((w.setCell ⟨b, 0, none⟩ v0).setCell ⟨b, 1, none⟩ v1) b t #[v0, v1, a2, a3, a4, a5, a6, a7, a8, a9] := by
    have := h0.set 1 v1
    simpa using this
  have h2 : Is (((w.setCell ⟨b, 0, none⟩ v0).setCell ⟨b, 1, none⟩ v1).setCell ⟨b, 2, none⟩ v2) b t #[v0, v1, v2, a3, a4, a5, a6, a7, a8, a9] := by
    have := h1.set 2 v2
    simpa using this
  have h3 : Is ((((w.setCell ⟨b, 0, none⟩ v0).setCell ⟨b, 1, none⟩ v1).setCell ⟨b, 2, none⟩ v2).setCell ⟨b, 3, none⟩ v3) b t #[v0, v1, v2, v3, a4, a5, a6, a7, a8, a9] := by
    have := h2.set 3 v3
    simpa using this
  have h4 : Is (((((w.setCell ⟨b, 0, none⟩ v0).setCell ⟨b, 1, none⟩ v1).setCell ⟨b, 2, none⟩ v2).setCell ⟨b, 3, none⟩ v3).setCell ⟨b, 4, none⟩ v4) b t #[v0, v1, v2, v3, v4, a5, a6, a7, a8, a9] := by
    have := h3.set 4 v4
    simpa using this
  have h5 : Is ((((((w.setCell ⟨b, 0, none⟩ v0).setCell ⟨b, 1, none⟩ v1).setCell ⟨b, 2, none⟩ v2).setCell ⟨b, 3, none⟩ v3).setCell ⟨b, 4, none⟩ v4).setCell ⟨b, 5, none⟩ v5) b t #[v0, v1, v2, v3, v4, v5, a6, a7, a8, a9] := by
    have := h4.set 5 v5
    simpa using this
  have h6 : Is (((((((w.setCell ⟨b, 0, none⟩ v0).setCell ⟨b, 1, none⟩ v1).setCell ⟨b, 2, none⟩ v2).setCell ⟨b, 3, none⟩ v3).setCell ⟨b, 4, none⟩ v4).setCell ⟨b, 5, none⟩ v5).setCell ⟨b, 6, none⟩ v6) b t #[v0, v1, v2, v3, v4, v5, v6, a7, a8, a9] := by
    have := h5.set 6 v6
    simpa using this
  have h7 : Is ((((((((w.setCell ⟨b, 0, none⟩ v0).setCell ⟨b, 1, none⟩ v1).setCell ⟨b, 2, none⟩ v2).setCell ⟨b, 3, none⟩ v3).setCell ⟨b, 4, none⟩ v4).setCell ⟨b, 5, none⟩ v5).setCell ⟨b, 6, none⟩ v6).setCell ⟨b, 7, none⟩ v7) b t #[v0, v1, v2, v3, v4, v5, v6, v7, a8, a9] := by
    have := h6.set 7 v7
    simpa using this
  have h8 : Is (((((((((w.setCell ⟨b, 0, none⟩ v0).setCell ⟨b, 1, none⟩ v1).setCell ⟨b, 2, none⟩ v2).setCell ⟨b, 3, none⟩ v3).setCell ⟨b, 4, none⟩ v4).setCell ⟨b, 5, none⟩ v5).setCell ⟨b, 6, none⟩ v6).setCell ⟨b, 7, none⟩ v7).setCell ⟨b, 8, none⟩ v8) b t #[v0, v1, v2, v3, v4, v5, v6, v7, v8, a9] := by
    have := h7.set 8 v8
    simpa using this
  have h9 : Is ((((((((((w.setCell ⟨b, 0, none⟩ v0).setCell ⟨b, 1, none⟩ v1).setCell ⟨b, 2, none⟩ v2).setCell ⟨b, 3, none⟩ v3).setCell ⟨b, 4, none⟩ v4).setCell ⟨b, 5, none⟩ v5).setCell ⟨b, 6, none⟩ v6).setCell ⟨b, 7, none⟩ v7).setCell ⟨b, 8, none⟩ v8).setCell ⟨b, 9, none⟩ v9) b t #[v0, v1, v2, v3, v4, v5, v6, v7, v8, v9] := by
    have := h8.set 9 v9
    simpa using this
  exact h9
theorem Is.ten {w : World} {b : Nat} {t : TypeId} {cs : Array Value} (h : Is w b t cs) {o : Nat} (ho : o + 10 ≤ cs.size) : ∃ v0 v1 v2 v3 v4 v5 v6 v7 v8 v9, w.cell? ⟨b, o, none⟩ = some v0 ∧ w.cell? ⟨b, o + 1, none⟩ = some v1 ∧ w.cell? ⟨b, o + 2, none⟩ = some v2 ∧ w.cell? ⟨b, o + 3, none⟩ = some v3 ∧ w.cell? ⟨b, o + 4, none⟩ = some v4 ∧ w.cell? ⟨b, o + 5, none⟩ = some v5 ∧ w.cell? ⟨b, o + 6, none⟩ = some v6 ∧ w.cell? ⟨b, o + 7, none⟩ = some v7 ∧ w.cell? ⟨b, o + 8, none⟩ = some v8 ∧ w.cell? ⟨b, o + 9, none⟩ = some v9 :=
  ⟨cs[o], cs[o + 1], cs[o + 2], cs[o + 3], cs[o + 4], cs[o + 5], cs[o + 6], cs[o + 7], cs[o + 8], cs[o + 9], (h.cell (o)).trans (Array.getElem?_eq_getElem (by omega)), (h.cell (o + 1)).trans (Array.getElem?_eq_getElem (by omega)), (h.cell (o + 2)).trans (Array.getElem?_eq_getElem (by omega)), (h.cell (o + 3)).trans (Array.getElem?_eq_getElem (by omega)), (h.cell (o + 4)).trans (Array.getElem?_eq_getElem (by omega)), (h.cell (o + 5)).trans (Array.getElem?_eq_getElem (by omega)), (h.cell (o + 6)).trans (Array.getElem?_eq_getElem (by omega)), (h.cell (o + 7)).trans (Array.getElem?_eq_getElem (by omega)), (h.cell (o + 8)).trans (Array.getElem?_eq_getElem (by omega)), (h.cell (o + 9)).trans (Array.getElem?_eq_getElem (by omega))⟩
theorem Is.tenz {w : World} {b : Nat} {t : TypeId} {cs : Array Value} (h : Is w b t cs) (o : Nat) : w.frozen? ⟨b, o, none⟩ = false ∧ w.frozen? ⟨b, o + 1, none⟩ = false ∧ w.frozen? ⟨b, o + 2, none⟩ = false ∧ w.frozen? ⟨b, o + 3, none⟩ = false ∧ w.frozen? ⟨b, o + 4, none⟩ = false ∧ w.frozen? ⟨b, o + 5, none⟩ = false ∧ w.frozen? ⟨b, o + 6, none⟩ = false ∧ w.frozen? ⟨b, o + 7, none⟩ = false ∧ w.frozen? ⟨b, o + 8, none⟩ = false ∧ w.frozen? ⟨b, o + 9, none⟩ = false :=
  ⟨h.frozen (o), h.frozen (o + 1), h.frozen (o + 2), h.frozen (o + 3), h.frozen (o + 4), h.frozen (o + 5), h.frozen (o + 6), h.frozen (o + 7), h.frozen (o + 8), h.frozen (o + 9)⟩
theorem Is.put10 {w : World} {b : Nat} {t : TypeId} {cs : Array Value} (h : Is w b t cs) {o : Nat} {v0 v1 v2 v3 v4 v5 v6 v7 v8 v9 : Value} : Is ((((((((((w.setCell ⟨b, o, none⟩ v0).setCell ⟨b, o + 1, none⟩ v1).setCell ⟨b, o + 2, none⟩ v2).setCell ⟨b, o + 3, none⟩ v3).setCell ⟨b, o + 4, none⟩ v4).setCell ⟨b, o + 5, none⟩ v5).setCell ⟨b, o + 6, none⟩ v6).setCell ⟨b, o + 7, none⟩ v7).setCell ⟨b, o + 8, none⟩ v8).setCell ⟨b, o + 9, none⟩ v9) b t (splice cs o [v0, v1, v2, v3, v4, v5, v6, v7, v8, v9]) := Is.setCells [v0, v1, v2, v3, v4, v5, v6, v7, v8, v9] o w cs h
theorem Is.put5 {w : World} {b : Nat} {t : TypeId} {cs : Array Value} (h : Is w b t cs) {o : Nat} {v0 v1 v2 v3 v4 : Value} : Is (((((w.setCell ⟨b, o, none⟩ v0).setCell ⟨b, o + 1, none⟩ v1).setCell ⟨b, o + 2, none⟩ v2).setCell ⟨b, o + 3, none⟩ v3).setCell ⟨b, o + 4, none⟩ v4) b t (splice cs o [v0, v1, v2, v3, v4]) := Is.setCells [v0, v1, v2, v3, v4] o w cs h
theorem Is.head5 {w : World} {b : Nat} {t : TypeId} {cs : Array Value} (h : Is w b t cs) {o q : Nat} (ho : o + 5 ≤ cs.size) (hq : q < o) {v0 v1 v2 v3 v4 : Value} : (((((w.setCell ⟨b, o, none⟩ v0).setCell ⟨b, o + 1, none⟩ v1).setCell ⟨b, o + 2, none⟩ v2).setCell ⟨b, o + 3, none⟩ v3).setCell ⟨b, o + 4, none⟩ v4).cell? ⟨b, q, none⟩ = w.cell? ⟨b, q, none⟩ := by
  rw [h.cell q, Is.cell h.put5 q, splice_at _ _ _ _ (by simpa using ho), if_neg (by omega)]
theorem Is.far5 {w : World} {b g : Nat} {t : TypeId} {cs : Array Value} (h : Is w b t cs) (hg : b ≠ g) {o : Nat} {v0 v1 v2 v3 v4 : Value} : Is (((((w.setCell ⟨g, o, none⟩ v0).setCell ⟨g, o + 1, none⟩ v1).setCell ⟨g, o + 2, none⟩ v2).setCell ⟨g, o + 3, none⟩ v3).setCell ⟨g, o + 4, none⟩ v4) b t cs := (((((h.far (p := ⟨g, o, none⟩) hg v0).far (p := ⟨g, o + 1, none⟩) hg v1).far (p := ⟨g, o + 2, none⟩) hg v2).far (p := ⟨g, o + 3, none⟩) hg v3).far (p := ⟨g, o + 4, none⟩) hg v4)
theorem Fr.set5 {S : Nat → Prop} {W w : World} {g : Nat} (f : Fr S W w) (hg : S g ∨ W.heap.size ≤ g) {o : Nat} {v0 v1 v2 v3 v4 : Value} : Fr S W (((((w.setCell ⟨g, o, none⟩ v0).setCell ⟨g, o + 1, none⟩ v1).setCell ⟨g, o + 2, none⟩ v2).setCell ⟨g, o + 3, none⟩ v3).setCell ⟨g, o + 4, none⟩ v4) := (((((f.setCell (p := ⟨g, o, none⟩) hg v0).setCell (p := ⟨g, o + 1, none⟩) hg v1).setCell (p := ⟨g, o + 2, none⟩) hg v2).setCell (p := ⟨g, o + 3, none⟩) hg v3).setCell (p := ⟨g, o + 4, none⟩) hg v4)
theorem Is.head5d {w : World} {b : Nat} {t : TypeId} {cs : Array Value} (h : Is w b t cs) {o q : Nat} {u : Value} (ho : o + 5 ≤ cs.size) (hq : q < o) (hu : w.drew.cell? ⟨b, q, none⟩ = some u) (W : World) {v0 v1 v2 v3 v4 : Value} (hW : W = (((((w.setCell ⟨b, o, none⟩ v0).setCell ⟨b, o + 1, none⟩ v1).setCell ⟨b, o + 2, none⟩ v2).setCell ⟨b, o + 3, none⟩ v3).setCell ⟨b, o + 4, none⟩ v4).drew) : W.cell? ⟨b, q, none⟩ = some u := by
  subst hW
  rw [World.cell?_drew] at hu ⊢
  exact (h.head5 ho hq).trans hu
theorem Is.far5d {w : World} {b g : Nat} {t : TypeId} {a0 a1 a2 a3 : Value} (h : Is w b t #[a0, a1, a2, a3]) (hg : b ≠ g) (W : World) {o : Nat} {v0 v1 v2 v3 v4 : Value} (hW : W = (((((w.setCell ⟨g, o, none⟩ v0).setCell ⟨g, o + 1, none⟩ v1).setCell ⟨g, o + 2, none⟩ v2).setCell ⟨g, o + 3, none⟩ v3).setCell ⟨g, o + 4, none⟩ v4).drew) : W.cell? ⟨b, 0, none⟩ = some a0 ∧ W.cell? ⟨b, 1, none⟩ = some a1 ∧ W.cell? ⟨b, 2, none⟩ = some a2 ∧ W.cell? ⟨b, 3, none⟩ = some a3 := by
  subst hW
  simp only [World.cell?_drew]
  have k := h.far5 (o := o) (v0 := v0) (v1 := v1) (v2 := v2) (v3 := v3) (v4 := v4) hg
  exact ⟨(k.cell 0).trans rfl, (k.cell 1).trans rfl, (k.cell 2).trans rfl, (k.cell 3).trans rfl⟩
theorem Fr.set10 {S : Nat → Prop} {W w : World} {g : Nat} (f : Fr S W w) (hg : S g ∨ W.heap.size ≤ g) {o0 o1 o2 o3 o4 o5 o6 o7 o8 o9 : Nat} {v0 v1 v2 v3 v4 v5 v6 v7 v8 v9 : Value} : Fr S W ((((((((((w.setCell ⟨g, o0, none⟩ v0).setCell ⟨g, o1, none⟩ v1).setCell ⟨g, o2, none⟩ v2).setCell ⟨g, o3, none⟩ v3).setCell ⟨g, o4, none⟩ v4).setCell ⟨g, o5, none⟩ v5).setCell ⟨g, o6, none⟩ v6).setCell ⟨g, o7, none⟩ v7).setCell ⟨g, o8, none⟩ v8).setCell ⟨g, o9, none⟩ v9) := ((((((((((f.setCell (p := ⟨g, o0, none⟩) hg v0).setCell (p := ⟨g, o1, none⟩) hg v1).setCell (p := ⟨g, o2, none⟩) hg v2).setCell (p := ⟨g, o3, none⟩) hg v3).setCell (p := ⟨g, o4, none⟩) hg v4).setCell (p := ⟨g, o5, none⟩) hg v5).setCell (p := ⟨g, o6, none⟩) hg v6).setCell (p := ⟨g, o7, none⟩) hg v7).setCell (p := ⟨g, o8, none⟩) hg v8).setCell (p := ⟨g, o9, none⟩) hg v9)
end Go.Proofs.Ytfmhfngilimhjaa
namespace Go.Proofs.Ytfmhfngilimhjaa.Im
open Go.RowKit Li

/-- A controller as plain data: its receiver, what it said last, at which stamp. -/
structure Km where
  r : R
  s : Te.St
  z : Int
/-- a telegram that comes -/
def Km.hear (k : Km) (h : Te.Hs) (now : Int) (t : T) : Km × Int :=
  if (k.r.take now t).2.1 = 0 then
    (if (Te.rstL h (k.r.take now t).1).2 = 0 then (⟨(k.r.take now t).2.2, (Te.rstL h (k.r.take now t).1).1, (k.r.take now t).2.2.last⟩, 0) else (⟨(k.r.take now t).2.2, k.s, k.z⟩, (Te.rstL h (k.r.take now t).1).2))
  else (⟨(k.r.take now t).2.2, k.s, k.z⟩, (k.r.take now t).2.1)
def Km.fresh (k : Km) (now age : Int) : Bool := decide (k.z ≠ -1) && (decide (k.z ≤ now) && decide (now - k.z ≤ age))

/-- A controller: the block of its receiver, its lists' places. -/
structure Kc where
  rb : Nat
  r : R
  h : Te.Sta
  s : Te.Sta
  z : Int
def Kc.m (k : Kc) : Km := ⟨k.r, k.s.st, k.z⟩
def Kc.cells (k : Kc) : List Value := [.pointer (some ⟨k.rb, 0, none⟩), .slice k.h.occ.A k.h.occ.l.length k.h.occ.c, .slice k.h.pos.A k.h.pos.l.length k.h.pos.c, .slice k.h.shut.A k.h.shut.l.length k.h.shut.c, .slice k.h.lamp.A k.h.lamp.l.length k.h.lamp.c,
  .slice k.s.occ.A k.s.occ.l.length k.s.occ.c, .slice k.s.pos.A k.s.pos.l.length k.s.pos.c, .slice k.s.shut.A k.s.shut.l.length k.s.shut.c, .slice k.s.lamp.A k.s.lamp.l.length k.s.lamp.c, .int .i64 k.z]
def Kc.arr (k : Kc) : Array Value := #[.pointer (some ⟨k.rb, 0, none⟩), .slice k.h.occ.A k.h.occ.l.length k.h.occ.c, .slice k.h.pos.A k.h.pos.l.length k.h.pos.c, .slice k.h.shut.A k.h.shut.l.length k.h.shut.c, .slice k.h.lamp.A k.h.lamp.l.length k.h.lamp.c,
  .slice k.s.occ.A k.s.occ.l.length k.s.occ.c, .slice k.s.pos.A k.s.pos.l.length k.s.pos.c, .slice k.s.shut.A k.s.shut.l.length k.s.shut.c, .slice k.s.lamp.A k.s.lamp.l.length k.s.lamp.c, .int .i64 k.z]
theorem Kc.arr_cells (k : Kc) : k.arr = k.cells.toArray := rfl
structure Lay (cs : Array Value) (ks : List Kc) (C : Te.Cf) : Prop where
  size : cs.size = 44
  at_ : ∀ j (hj : j < ks.length) i, i < 10 → cs[j * 10 + i]? = ks[j].cells[i]?
  age : cs[40]? = some (.int .i64 C.t.age)
  ns : cs[41]? = some (.int .i64 (C.l.length : Nat))
  nc : cs[42]? = some (.int .i64 (C.cr.length : Nat))
  ng : cs[43]? = some (.int .i64 (C.sg.length : Nat))
/-- the blocks that an image turns -/
def Foot (b : Nat) (ks : List Kc) (q : Nat) : Prop := q = b ∨ ∃ k ∈ ks, q = k.rb
structure Kc.Ok (w : World) (k : Kc) : Prop where
  rv : Rv w k.rb k.r
  h : k.h.Ok w
  s : k.s.Ok w
/-- An image lies at block b: these controllers, of this configuration. -/
structure Im (w : World) (b : Nat) (ks : List Kc) (C : Te.Cf) : Prop where
  is : ∃ cs, Is w b 93 cs ∧ Lay cs ks C
  le : ks.length ≤ 4
  ok : ∀ k ∈ ks, k.Ok w
  far : ∀ k ∈ ks, k.h.Off (Foot b ks) ∧ k.s.Off (Foot b ks)
  nd : (ks.map Kc.rb).Nodup

theorem Im.cell {w : World} {b : Nat} {ks : List Kc} {C : Te.Cf} (h : Im w b ks C) {j : Nat} (hj : j < ks.length) {i : Nat} (hi : i < 10) : w.cell? ⟨b, j * 10 + i, none⟩ = ks[j].cells[i]? := by
  obtain ⟨cs, k, l⟩ := h.is
  exact (k.cell _).trans (l.at_ j hj i hi)
theorem Im.lt {w : World} {b : Nat} {ks : List Kc} {C : Te.Cf} (h : Im w b ks C) : b < w.heap.size := by
  obtain ⟨cs, k, _⟩ := h.is
  exact k.lt
theorem Im.ne {w : World} {b : Nat} {ks : List Kc} {C : Te.Cf} (h : Im w b ks C) {k : Kc} (hk : k ∈ ks) : k.rb ≠ b := fun e => by
  obtain ⟨cs, i, _⟩ := h.is
  have r := (h.ok k hk).rv
  unfold Rv Is at r
  unfold Is at i
  rw [e, i] at r
  injection r with r
  injection r with _ r
  exact absurd r (by decide)
theorem Im.foot_lt {w : World} {b : Nat} {ks : List Kc} {C : Te.Cf} (h : Im w b ks C) {q : Nat} (hq : Foot b ks q) : q < w.heap.size := by
  rcases hq with rfl | ⟨k, hk, rfl⟩
  · exact h.lt
  · exact (h.ok k hk).rv.lt
/-- what turns other blocks leaves the image -/
theorem Im.fr {w w1 : World} {b : Nat} {ks : List Kc} {C : Te.Cf} {S : Nat → Prop} (h : Im w b ks C) (f : Fr S w w1) (hs : ∀ q, Foot b ks q → ¬ S q) (hl : ∀ k ∈ ks, k.h.Off S ∧ k.s.Off S) : Im w1 b ks C := by
  obtain ⟨⟨cs, i, l⟩, h1, h2, h3, h4⟩ := h
  exact ⟨⟨cs, i.fr f (hs b (.inl rfl)), l⟩, h1, fun k hk => ⟨(h2 k hk).rv.fr f (hs _ (.inr ⟨k, hk, rfl⟩)), (h2 k hk).h.off f (hl k hk).1, (h2 k hk).s.off f (hl k hk).2⟩, h3, h4⟩
theorem no_off (x : Te.Sta) : x.Off fun _ => False := ⟨fun _ _ _ => id, fun _ _ _ => id, fun _ _ _ => id, fun _ _ _ => id⟩
theorem Im.fr0 {w w1 : World} {b : Nat} {ks : List Kc} {C : Te.Cf} (h : Im w b ks C) (f : Fr (fun _ => False) w w1) : Im w1 b ks C :=
  h.fr f (fun _ _ => id) fun _ _ => ⟨no_off _, no_off _⟩
theorem Foot.snoc {b : Nat} {ks : List Kc} {k : Kc} {q : Nat} (h : Foot b (ks ++ [k]) q) : Foot b ks q ∨ q = k.rb := by
  rcases h with h | ⟨x, hx, e⟩
  · exact .inl (.inl h)
  · rcases List.mem_append.1 hx with hx | hx
    · exact .inl (.inr ⟨x, hx, e⟩)
    · rw [List.mem_singleton] at hx
      exact .inr (hx ▸ e)
theorem Foot.set {b : Nat} {ks : List Kc} {k : Kc} {j : Nat} {q : Nat} (hj : j < ks.length) (hk : k.rb = ks[j].rb) (h : Foot b (ks.set j k) q) : Foot b ks q := by
  rcases h with h | ⟨x, hx, e⟩
  · exact .inl h
  · rcases List.mem_or_eq_of_mem_set hx with hx | rfl
    · exact .inr ⟨x, hx, e⟩
    · exact .inr ⟨ks[j], List.getElem_mem hj, e.trans hk⟩
/-- a controller more -/
theorem Lay.put {cs : Array Value} {ks : List Kc} {C : Te.Cf} (h : Lay cs ks C) (hl : ks.length < 4) (k : Kc) : Lay (splice cs (ks.length * 10) k.cells) (ks ++ [k]) C := by
  have hs := h.size
  have hk : k.cells.length = 10 := rfl
  have hin : ks.length * 10 + k.cells.length ≤ cs.size := by omega
  have far : ∀ i, ks.length * 10 + 10 ≤ i → (splice cs (ks.length * 10) k.cells)[i]? = cs[i]? := fun i hi => by
    rw [splice_at _ _ _ _ hin, if_neg (by omega)]
  refine ⟨by rw [splice_size, hs], fun j hj i hi => ?_, (far 40 (by omega)).trans h.age, (far 41 (by omega)).trans h.ns, (far 42 (by omega)).trans h.nc, (far 43 (by omega)).trans h.ng⟩
  rw [List.length_append, List.length_singleton] at hj
  rw [splice_at _ _ _ _ hin]
  by_cases hj2 : j < ks.length
  · rw [if_neg (by omega), List.getElem_append_left hj2]
    exact h.at_ j hj2 i hi
  · have e : j = ks.length := by omega
    subst e
    rw [if_pos (by omega)]
    simp
/-- another controller in its place -/
theorem Lay.set {cs : Array Value} {ks : List Kc} {C : Te.Cf} (h : Lay cs ks C) (hl : ks.length ≤ 4) {j : Nat} (hj : j < ks.length) (k : Kc) : Lay (splice cs (j * 10) k.cells) (ks.set j k) C := by
  have hs := h.size
  have hk : k.cells.length = 10 := rfl
  have hin : j * 10 + k.cells.length ≤ cs.size := by omega
  have far : ∀ i, j * 10 + 10 ≤ i → (splice cs (j * 10) k.cells)[i]? = cs[i]? := fun i hi => by
    rw [splice_at _ _ _ _ hin, if_neg (by omega)]
  refine ⟨by rw [splice_size, hs], fun x hx i hi => ?_, (far 40 (by omega)).trans h.age, (far 41 (by omega)).trans h.ns, (far 42 (by omega)).trans h.nc, (far 43 (by omega)).trans h.ng⟩
  rw [List.length_set] at hx
  rw [splice_at _ _ _ _ hin]
  by_cases e : x = j
  · subst e
    rw [if_pos (by omega)]
    simp
  · rw [if_neg (by omega), List.getElem_set_ne (by omega)]
    exact h.at_ x hx i hi
theorem Foot.mono {b : Nat} {ks : List Kc} {k : Kc} {q : Nat} (h : Foot b ks q) : Foot b (ks ++ [k]) q := by
  rcases h with h | ⟨x, hx, e⟩
  · exact .inl h
  · exact .inr ⟨x, List.mem_append_left _ hx, e⟩
/-- a controller more, in memory: it is new, and its cells were set -/
theorem Im.put {w w1 W : World} {b : Nat} {ks : List Kc} {C : Te.Cf} {cs : Array Value} {k : Kc} (h : Im w b ks C) (hl : ks.length < 4) (lay : Lay cs ks C) (f : Fr (fun _ => False) w w1) (ok : k.Ok w1) (hr : w.heap.size ≤ k.rb) (hh : k.h.New w.heap.size) (hs : k.s = Te.nilSta)
    (hk : k.h.Off fun q => q = k.rb) (is : Is W b 93 (splice cs (ks.length * 10) k.cells)) (fW : Fr (fun q => q = b) w1 W) : Im W b (ks ++ [k]) C := by
  have hlt := h.lt
  have h1 := h.fr0 f
  have hb : b ≠ k.rb := by omega
  have kb : k.h.Off fun q => q = b := hh.off' fun q hq e => by omega
  refine ⟨⟨_, is, lay.put hl k⟩, by rw [List.length_append, List.length_singleton]; omega, fun x hx => ?_, fun x hx => ?_, ?_⟩
  · rcases List.mem_append.1 hx with hx | hx
    · exact ⟨(h1.ok x hx).rv.fr fW (h1.ne hx), (h1.ok x hx).h.off fW ((h1.far x hx).1.mono fun q hq => .inl hq), (h1.ok x hx).s.off fW ((h1.far x hx).2.mono fun q hq => .inl hq)⟩
    · rw [List.mem_singleton] at hx
      subst hx
      exact ⟨ok.rv.fr fW fun e => hb e.symm, ok.h.off fW kb, ok.s.off fW (by rw [hs]; exact Te.nilSta_off _)⟩
  · rcases List.mem_append.1 hx with hx | hx
    · exact ⟨((h.far x hx).1.or ((h.ok x hx).h.off_new (S := fun q => q = k.rb) fun q e => by omega)).mono fun q hq => hq.snoc, ((h.far x hx).2.or ((h.ok x hx).s.off_new (S := fun q => q = k.rb) fun q e => by omega)).mono fun q hq => hq.snoc⟩
    · rw [List.mem_singleton] at hx
      subst hx
      refine ⟨Te.Sta.Off.mono (Te.Sta.Off.or (hh.off (S := Foot b ks) fun q hq => h.foot_lt hq) hk) fun q hq => hq.snoc, by rw [hs]; exact Te.nilSta_off _⟩
  · rw [List.map_append, List.nodup_append]
    refine ⟨h.nd, by simp, fun x hx y hy => ?_⟩
    simp only [List.map_cons, List.map_nil, List.mem_singleton] at hy
    obtain ⟨z, hz, rfl⟩ := List.mem_map.1 hx
    have := (h.ok z hz).rv.lt
    omega
/-- a controller is another one, with the same receiver's block -/
theorem Im.set {w W : World} {b : Nat} {ks : List Kc} {C : Te.Cf} {cs : Array Value} {k : Kc} {j : Nat} (h : Im w b ks C) (hj : j < ks.length) (lay : Lay cs ks C) (ok : k.Ok W) (hr : k.rb = ks[j].rb) (hh : k.h.Off (Foot b ks)) (hs : k.s.Off (Foot b ks))
    (is : Is W b 93 (splice cs (j * 10) k.cells)) (f : Fr (fun q => q = b ∨ q = ks[j].rb) w W) : Im W b (ks.set j k) C := by
  have hmem := List.getElem_mem hj
  refine ⟨⟨_, is, lay.set h.le hj k⟩, by rw [List.length_set]; exact h.le, fun x hx => ?_, fun x hx => ?_, ?_⟩
  · obtain ⟨i, hi, rfl⟩ := List.getElem_of_mem hx
    rw [List.length_set] at hi
    by_cases e : j = i
    · subst e
      rw [List.getElem_set_self]
      exact ok
    · rw [List.getElem_set_ne e]
      have hm := List.getElem_mem hi
      have hsub : ∀ q, (q = b ∨ q = ks[j].rb) → Foot b ks q := fun q hq => by
        rcases hq with hq | hq
        · exact .inl hq
        · exact .inr ⟨_, hmem, hq⟩
      refine ⟨(h.ok _ hm).rv.fr f ?_, (h.ok _ hm).h.off f ((h.far _ hm).1.mono hsub), (h.ok _ hm).s.off f ((h.far _ hm).2.mono hsub)⟩
      rintro (c | c)
      · exact h.ne hm c
      · have n := List.nodup_iff_pairwise_ne.1 h.nd
        rw [List.pairwise_iff_getElem] at n
        rcases Nat.lt_or_gt_of_ne e with l | l
        · exact n j i (by simpa using hj) (by simpa using hi) l (by simpa using c.symm)
        · exact n i j (by simpa using hi) (by simpa using hj) l (by simpa using c)
  · have hf : ∀ q, Foot b (ks.set j k) q → Foot b ks q := fun q hq => hq.set hj hr
    rcases List.mem_or_eq_of_mem_set hx with hx | rfl
    · exact ⟨(h.far x hx).1.mono hf, (h.far x hx).2.mono hf⟩
    · exact ⟨hh.mono hf, hs.mono hf⟩
  · have e : (ks.set j k).map Kc.rb = ks.map Kc.rb := by
      rw [List.map_set, hr]
      apply List.ext_getElem (by simp)
      intro i h1 h2
      rw [List.getElem_set]
      split
      · rename_i c
        subst c
        simp
      · rfl
    rw [e]
    exact h.nd
theorem Im.ctl {w : World} {b : Nat} {ks : List Kc} {C : Te.Cf} (h : Im w b ks C) {j : Nat} (hj : j < ks.length) : w.cell? ⟨b, j * 10, none⟩ = some (.pointer (some ⟨ks[j].rb, 0, none⟩)) ∧ w.cell? ⟨b, j * 10 + 1, none⟩ = some (.slice ks[j].h.occ.A ks[j].h.occ.l.length ks[j].h.occ.c) ∧ w.cell? ⟨b, j * 10 + 2, none⟩ = some (.slice ks[j].h.pos.A ks[j].h.pos.l.length ks[j].h.pos.c) ∧ w.cell? ⟨b, j * 10 + 3, none⟩ = some (.slice ks[j].h.shut.A ks[j].h.shut.l.length ks[j].h.shut.c) ∧ w.cell? ⟨b, j * 10 + 4, none⟩ = some (.slice ks[j].h.lamp.A ks[j].h.lamp.l.length ks[j].h.lamp.c) ∧ w.cell? ⟨b, j * 10 + 5, none⟩ = some (.slice ks[j].s.occ.A ks[j].s.occ.l.length ks[j].s.occ.c) ∧ w.cell? ⟨b, j * 10 + 6, none⟩ = some (.slice ks[j].s.pos.A ks[j].s.pos.l.length ks[j].s.pos.c) ∧ w.cell? ⟨b, j * 10 + 7, none⟩ = some (.slice ks[j].s.shut.A ks[j].s.shut.l.length ks[j].s.shut.c) ∧ w.cell? ⟨b, j * 10 + 8, none⟩ = some (.slice ks[j].s.lamp.A ks[j].s.lamp.l.length ks[j].s.lamp.c) ∧ w.cell? ⟨b, j * 10 + 9, none⟩ = some (.int .i64 ks[j].z) :=
  ⟨(h.cell hj (i := 0) (by decide)).trans rfl, (h.cell hj (i := 1) (by decide)).trans rfl, (h.cell hj (i := 2) (by decide)).trans rfl, (h.cell hj (i := 3) (by decide)).trans rfl, (h.cell hj (i := 4) (by decide)).trans rfl, (h.cell hj (i := 5) (by decide)).trans rfl, (h.cell hj (i := 6) (by decide)).trans rfl, (h.cell hj (i := 7) (by decide)).trans rfl, (h.cell hj (i := 8) (by decide)).trans rfl, (h.cell hj (i := 9) (by decide)).trans rfl⟩
theorem Im.ctlz {w : World} {b : Nat} {ks : List Kc} {C : Te.Cf} (h : Im w b ks C) (o : Nat) : w.frozen? ⟨b, o, none⟩ = false := by
  obtain ⟨cs, i, _⟩ := h.is
  exact i.frozen o
theorem splice_same {cs : Array Value} {ks : List Kc} {C : Te.Cf} (h : Lay cs ks C) (hl : ks.length ≤ 4) {j : Nat} (hj : j < ks.length) : splice cs (j * 10) ks[j].cells = cs := by
  have hs := h.size
  have hk : ks[j].cells.length = 10 := rfl
  apply Array.ext_getElem?
  intro i
  rw [splice_at _ _ _ _ (by omega)]
  by_cases c : j * 10 ≤ i ∧ i < j * 10 + ks[j].cells.length
  · rw [if_pos c, ← h.at_ j hj (i - j * 10) (by omega), show j * 10 + (i - j * 10) = i by omega]
  · rw [if_neg c]
/-- a receiver turned -/
theorem Im.turn {w W : World} {b : Nat} {ks : List Kc} {C : Te.Cf} {j : Nat} (h : Im w b ks C) (hj : j < ks.length) {r : R} (f : Fr (fun q => q = ks[j].rb) w W) (hr : Rv W ks[j].rb r) : Im W b (ks.set j { ks[j] with r := r }) C := by
  have hm := List.getElem_mem hj
  have hl := h.le
  obtain ⟨cs, is, lay⟩ := h.is
  have e := splice_same lay hl hj
  refine h.set hj lay ⟨hr, (h.ok _ hm).h.off f ((h.far _ hm).1.mono fun q hq => .inr ⟨_, hm, hq⟩), (h.ok _ hm).s.off f ((h.far _ hm).2.mono fun q hq => .inr ⟨_, hm, hq⟩)⟩ rfl (h.far _ hm).1 (h.far _ hm).2 ?_ (f.mono fun q _ hq => .inr hq)
  have i2 := is.fr f fun c => h.ne hm c.symm
  rw [← e] at i2
  exact i2
theorem Im.ctls {w : World} {b : Nat} {ks : List Kc} {C : Te.Cf} {j : Nat} {k : Kc} (h : Im w b (ks.set j k) C) (hj : j < ks.length) : w.cell? ⟨b, j * 10, none⟩ = some (.pointer (some ⟨k.rb, 0, none⟩)) ∧ w.cell? ⟨b, j * 10 + 1, none⟩ = some (.slice k.h.occ.A k.h.occ.l.length k.h.occ.c) ∧ w.cell? ⟨b, j * 10 + 1 + 1, none⟩ = some (.slice k.h.pos.A k.h.pos.l.length k.h.pos.c) ∧ w.cell? ⟨b, j * 10 + 1 + 2, none⟩ = some (.slice k.h.shut.A k.h.shut.l.length k.h.shut.c) ∧ w.cell? ⟨b, j * 10 + 1 + 3, none⟩ = some (.slice k.h.lamp.A k.h.lamp.l.length k.h.lamp.c) ∧ w.cell? ⟨b, j * 10 + 5, none⟩ = some (.slice k.s.occ.A k.s.occ.l.length k.s.occ.c) ∧ w.cell? ⟨b, j * 10 + 5 + 1, none⟩ = some (.slice k.s.pos.A k.s.pos.l.length k.s.pos.c) ∧ w.cell? ⟨b, j * 10 + 5 + 2, none⟩ = some (.slice k.s.shut.A k.s.shut.l.length k.s.shut.c) ∧ w.cell? ⟨b, j * 10 + 5 + 3, none⟩ = some (.slice k.s.lamp.A k.s.lamp.l.length k.s.lamp.c) ∧ w.cell? ⟨b, j * 10 + 5 + 4, none⟩ = some (.int .i64 k.z) :=
  ⟨(h.cell (by rw [List.length_set]; exact hj) (i := 0) (by decide)).trans (by rw [List.getElem_set_self]; rfl), (h.cell (by rw [List.length_set]; exact hj) (i := 1) (by decide)).trans (by rw [List.getElem_set_self]; rfl), (h.cell (by rw [List.length_set]; exact hj) (i := 2) (by decide)).trans (by rw [List.getElem_set_self]; rfl), (h.cell (by rw [List.length_set]; exact hj) (i := 3) (by decide)).trans (by rw [List.getElem_set_self]; rfl), (h.cell (by rw [List.length_set]; exact hj) (i := 4) (by decide)).trans (by rw [List.getElem_set_self]; rfl), (h.cell (by rw [List.length_set]; exact hj) (i := 5) (by decide)).trans (by rw [List.getElem_set_self]; rfl), (h.cell (by rw [List.length_set]; exact hj) (i := 6) (by decide)).trans (by rw [List.getElem_set_self]; rfl), (h.cell (by rw [List.length_set]; exact hj) (i := 7) (by decide)).trans (by rw [List.getElem_set_self]; rfl), (h.cell (by rw [List.length_set]; exact hj) (i := 8) (by decide)).trans (by rw [List.getElem_set_self]; rfl), (h.cell (by rw [List.length_set]; exact hj) (i := 9) (by decide)).trans (by rw [List.getElem_set_self]; rfl)⟩
theorem Im.ctlf {w : World} {b : Nat} {ks : List Kc} {C : Te.Cf} {j : Nat} (h : Im w b ks C) (hj : j < ks.length) {k : Kc} (hk : ks[j] = k) : w.cell? ⟨b, j * 10, none⟩ = some (.pointer (some ⟨k.rb, 0, none⟩)) ∧ w.cell? ⟨b, j * 10 + 1, none⟩ = some (.slice k.h.occ.A k.h.occ.l.length k.h.occ.c) ∧ w.cell? ⟨b, j * 10 + 1 + 1, none⟩ = some (.slice k.h.pos.A k.h.pos.l.length k.h.pos.c) ∧ w.cell? ⟨b, j * 10 + 1 + 2, none⟩ = some (.slice k.h.shut.A k.h.shut.l.length k.h.shut.c) ∧ w.cell? ⟨b, j * 10 + 1 + 3, none⟩ = some (.slice k.h.lamp.A k.h.lamp.l.length k.h.lamp.c) ∧ w.cell? ⟨b, j * 10 + 5, none⟩ = some (.slice k.s.occ.A k.s.occ.l.length k.s.occ.c) ∧ w.cell? ⟨b, j * 10 + 5 + 1, none⟩ = some (.slice k.s.pos.A k.s.pos.l.length k.s.pos.c) ∧ w.cell? ⟨b, j * 10 + 5 + 2, none⟩ = some (.slice k.s.shut.A k.s.shut.l.length k.s.shut.c) ∧ w.cell? ⟨b, j * 10 + 5 + 3, none⟩ = some (.slice k.s.lamp.A k.s.lamp.l.length k.s.lamp.c) ∧ w.cell? ⟨b, j * 10 + 5 + 4, none⟩ = some (.int .i64 k.z) :=
  ⟨(h.cell hj (i := 0) (by decide)).trans (by rw [hk]; rfl), (h.cell hj (i := 1) (by decide)).trans (by rw [hk]; rfl), (h.cell hj (i := 2) (by decide)).trans (by rw [hk]; rfl), (h.cell hj (i := 3) (by decide)).trans (by rw [hk]; rfl), (h.cell hj (i := 4) (by decide)).trans (by rw [hk]; rfl), (h.cell hj (i := 5) (by decide)).trans (by rw [hk]; rfl), (h.cell hj (i := 6) (by decide)).trans (by rw [hk]; rfl), (h.cell hj (i := 7) (by decide)).trans (by rw [hk]; rfl), (h.cell hj (i := 8) (by decide)).trans (by rw [hk]; rfl), (h.cell hj (i := 9) (by decide)).trans (by rw [hk]; rfl)⟩
/-- what a controller said is another thing: its last five cells -/
theorem splice_said {cs : Array Value} {ks : List Kc} {C : Te.Cf} (h : Lay cs ks C) (hl : ks.length ≤ 4) {j : Nat} (hj : j < ks.length) (k : Kc) (hh : k.h = ks[j].h) (hr : k.rb = ks[j].rb) :
    splice cs (j * 10 + 5) [.slice k.s.occ.A k.s.occ.l.length k.s.occ.c, .slice k.s.pos.A k.s.pos.l.length k.s.pos.c, .slice k.s.shut.A k.s.shut.l.length k.s.shut.c, .slice k.s.lamp.A k.s.lamp.l.length k.s.lamp.c, .int .i64 k.z] = splice cs (j * 10) k.cells := by
  have hs := h.size
  have hk : k.cells.length = 10 := rfl
  apply Array.ext_getElem?
  intro i
  rw [splice_at _ _ _ _ (by simp; omega), splice_at _ _ _ _ (by omega)]
  by_cases c : j * 10 + 5 ≤ i ∧ i < j * 10 + 10
  · rw [if_pos (by simpa using c), if_pos (by omega)]
    obtain ⟨m, rfl⟩ : ∃ m, i = j * 10 + 5 + m := ⟨i - (j * 10 + 5), by omega⟩
    rw [show j * 10 + 5 + m - (j * 10 + 5) = m by omega, show j * 10 + 5 + m - j * 10 = m + 5 by omega]
    rfl
  · rw [if_neg (by simpa using c)]
    by_cases c2 : j * 10 ≤ i ∧ i < j * 10 + 5
    · rw [if_pos (by omega)]
      have e := h.at_ j hj (i - j * 10) (by omega)
      rw [show j * 10 + (i - j * 10) = i by omega] at e
      rw [e]
      obtain ⟨m, hm⟩ : ∃ m, m = i - j * 10 := ⟨_, rfl⟩
      rw [← hm]
      have hm5 : m < 5 := by omega
      unfold Kc.cells
      rw [hh, hr]
      match m, hm5 with
      | 0, _ => rfl
      | 1, _ => rfl
      | 2, _ => rfl
      | 3, _ => rfl
      | 4, _ => rfl
    · rw [if_neg (by omega)]
end Go.Proofs.Ytfmhfngilimhjaa.Im

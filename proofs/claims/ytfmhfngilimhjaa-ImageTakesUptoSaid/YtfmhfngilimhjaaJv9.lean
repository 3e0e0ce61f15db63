/- For ImageTakes' views: rows that are written over, rows that are read, and what the region of three views lays. -/
import Derived.Test.YtfmhfngilimhjaaJboth
namespace Go.Proofs.Ytfmhfngilimhjaa.Im
open Go.RowKit Li

/-- a row of so many looks may be written; its block is one of P's -/
def Wl (w : World) (P : Nat → Prop) (A : Option Addr) (n : Nat) : Prop := 0 < n → ∃ q cur, A = some ⟨q, 0, none⟩ ∧ Is w q 59 cur ∧ n * 3 ≤ cur.size ∧ P q
theorem Wl.fr {w w1 : World} {P S : Nat → Prop} {n : Nat} {A : Option Addr} (h : Wl w P A n) (f : Fr S w w1) (hS : ∀ q, P q → ¬ S q) : Wl w1 P A n := fun h0 => by
  obtain ⟨q, cur, e, i, a, b⟩ := h h0
  exact ⟨q, cur, e, i.fr f (hS q b), a, b⟩
theorem Wl.set {w : World} {P : Nat → Prop} {n g k : Nat} {A : Option Addr} (h : Wl w P A n) (v : Value) : Wl (w.setCell ⟨g, k, none⟩ v) P A n := fun h0 => by
  obtain ⟨q, cur, e, i, a, b⟩ := h h0
  by_cases hq : q = g
  · subst hq
    exact ⟨q, _, e, i.set k v, by simpa using a, b⟩
  · exact ⟨q, cur, e, i.far (p := ⟨g, k, none⟩) hq v, a, b⟩
theorem Wl.cell {w : World} {P : Nat → Prop} {n k : Nat} {A : Option Addr} (h : Wl w P A n) (hk : k < n) : ∃ g a0 a1 a2, A = some ⟨g, 0, none⟩ ∧ (w.cell? ⟨g, k * 3, none⟩ = some a0 ∧ w.cell? ⟨g, k * 3 + 1, none⟩ = some a1 ∧ w.cell? ⟨g, k * 3 + 2, none⟩ = some a2) ∧ (w.frozen? ⟨g, k * 3, none⟩ = false ∧ w.frozen? ⟨g, k * 3 + 1, none⟩ = false ∧ w.frozen? ⟨g, k * 3 + 2, none⟩ = false) ∧ P g := by
  obtain ⟨q, cur, e, i, a, b⟩ := h (by omega)
  exact ⟨q, cur[k * 3], cur[k * 3 + 1], cur[k * 3 + 2], e, ⟨(i.cell _).trans (Array.getElem?_eq_getElem (by omega)), (i.cell _).trans (Array.getElem?_eq_getElem (by omega)), (i.cell _).trans (Array.getElem?_eq_getElem (by omega))⟩, ⟨i.frozen _, i.frozen _, i.frozen _⟩, b⟩
theorem Wl.of {w : World} {P : Nat → Prop} {g : Nat} {V : List Lk} (h : Is w g 59 (cellsL V).toArray) (hg : P g) : Wl w P (some ⟨g, 0, none⟩) V.length := fun _ => ⟨g, _, rfl, h, by rw [List.size_toArray, cellsL_length]; exact Nat.le_refl _, hg⟩
structure Wl4 (w : World) (P : Nat → Prop) (X0 X1 X2 X3 : Option Addr) (V0 V1 V2 V3 : List Lk) : Prop where
  l0 : Wl w P X0 V0.length
  l1 : Wl w P X1 V1.length
  l2 : Wl w P X2 V2.length
  l3 : Wl w P X3 V3.length
section
variable {w w1 : World} {P S : Nat → Prop} {X0 X1 X2 X3 : Option Addr} {V0 V1 V2 V3 : List Lk}
theorem Wl4.fr (h : Wl4 w P X0 X1 X2 X3 V0 V1 V2 V3) (f : Fr S w w1) (hS : ∀ q, P q → ¬ S q) : Wl4 w1 P X0 X1 X2 X3 V0 V1 V2 V3 := ⟨h.l0.fr f hS, h.l1.fr f hS, h.l2.fr f hS, h.l3.fr f hS⟩
theorem Wl4.set {g k : Nat} (h : Wl4 w P X0 X1 X2 X3 V0 V1 V2 V3) (v : Value) : Wl4 (w.setCell ⟨g, k, none⟩ v) P X0 X1 X2 X3 V0 V1 V2 V3 := ⟨h.l0.set v, h.l1.set v, h.l2.set v, h.l3.set v⟩
/-- one of four addresses' blocks -/
def Bq (X0 X1 X2 X3 : Option Addr) (q : Nat) : Prop := blk X0 = some q ∨ blk X1 = some q ∨ blk X2 = some q ∨ blk X3 = some q
theorem R4.fr1 (h : R4 w X0 X1 X2 X3 V0 V1 V2 V3) (f : Fr S w w1) (hS : ∀ q, Bq X0 X1 X2 X3 q → ¬ S q) : R4 w1 X0 X1 X2 X3 V0 V1 V2 V3 :=
  ⟨h.r0.fr f fun k hk => hS k (.inl hk), h.r1.fr f fun k hk => hS k (.inr (.inl hk)), h.r2.fr f fun k hk => hS k (.inr (.inr (.inl hk))), h.r3.fr f fun k hk => hS k (.inr (.inr (.inr hk)))⟩
end
/-- a view in a box, whose rows are read and are none of P's -/
structure Fx (w : World) (P : Nat → Prop) (b : Nat) (X0 X1 X2 X3 : Option Addr) (k0 k1 k2 k3 : Nat) (V0 V1 V2 V3 : List Lk) : Prop where
  is : Is w b 55 #[.slice X0 V0.length k0, .slice X1 V1.length k1, .slice X2 V2.length k2, .slice X3 V3.length k3]
  r4 : R4 w X0 X1 X2 X3 V0 V1 V2 V3
  off : ∀ q, Bq X0 X1 X2 X3 q → ¬ P q
  nb : ¬ P b
theorem Fx.fr {w w1 : World} {P S : Nat → Prop} {b : Nat} {X0 X1 X2 X3 : Option Addr} {k0 k1 k2 k3 : Nat} {V0 V1 V2 V3 : List Lk} (h : Fx w P b X0 X1 X2 X3 k0 k1 k2 k3 V0 V1 V2 V3) (f : Fr S w w1) (hS : ∀ q, S q → P q) : Fx w1 P b X0 X1 X2 X3 k0 k1 k2 k3 V0 V1 V2 V3 :=
  ⟨h.is.fr f fun e => h.nb (hS _ e), h.r4.fr1 f fun q hq e => h.off q hq (hS q e), h.off, h.nb⟩
/-- what the region's slots hold -/
def spA (z : Nat) (V0 V1 V2 V3 : List Lk) : Sp := ⟨fun v w => ∃ g0 g1 g2 g3, v = .agg #[.slice (some ⟨g0, 0, none⟩) V0.length V0.length, .slice (some ⟨g1, 0, none⟩) V1.length V1.length, .slice (some ⟨g2, 0, none⟩) V2.length V2.length, .slice (some ⟨g3, 0, none⟩) V3.length V3.length] ∧ (Is w g0 59 (cellsL V0).toArray ∧ Is w g1 59 (cellsL V1).toArray ∧ Is w g2 59 (cellsL V2).toArray ∧ Is w g3 59 (cellsL V3).toArray) ∧ z ≤ g0 ∧ z ≤ g1 ∧ z ≤ g2 ∧ z ≤ g3,
  fun _ _ _ ⟨g0, g1, g2, g3, e, ⟨i0, i1, i2, i3⟩, h⟩ f => ⟨g0, g1, g2, g3, e, ⟨i0.fr f id, i1.fr f id, i2.fr f id, i3.fr f id⟩, h⟩⟩
def spJ (z : Nat) (V0 V1 V2 V3 : List Lk) : Sp := ⟨fun v w => ∃ (X0 X1 X2 X3 : Option Addr) (k0 k1 k2 k3 : Nat), v = .agg #[.slice X0 V0.length k0, .slice X1 V1.length k1, .slice X2 V2.length k2, .slice X3 V3.length k3] ∧ R4 w X0 X1 X2 X3 V0 V1 V2 V3 ∧ ∀ q, Bq X0 X1 X2 X3 q → z ≤ q ∧ q < w.heap.size,
  fun _ _ _ ⟨X0, X1, X2, X3, k0, k1, k2, k3, e, r, h⟩ f => ⟨X0, X1, X2, X3, k0, k1, k2, k3, e, r.fr0 f, fun q hq => ⟨(h q hq).1, Nat.lt_of_lt_of_le (h q hq).2 f.size⟩⟩⟩
def footV (v : Value) (q : Nat) : Prop := ∃ (X0 X1 X2 X3 : Option Addr) (n0 n1 n2 n3 k0 k1 k2 k3 : Nat), v = .agg #[.slice X0 n0 k0, .slice X1 n1 k1, .slice X2 n2 k2, .slice X3 n3 k3] ∧ Bq X0 X1 X2 X3 q
theorem footV_iff {X0 X1 X2 X3 : Option Addr} {n0 n1 n2 n3 k0 k1 k2 k3 q : Nat} : footV (.agg #[.slice X0 n0 k0, .slice X1 n1 k1, .slice X2 n2 k2, .slice X3 n3 k3]) q ↔ Bq X0 X1 X2 X3 q := by
  constructor
  · rintro ⟨Y0, Y1, Y2, Y3, m0, m1, m2, m3, l0, l1, l2, l3, e, h⟩
    simp only [Value.agg.injEq, Array.mk.injEq, List.cons.injEq, Value.slice.injEq, and_true] at e
    obtain ⟨⟨e0, _⟩, ⟨e1, _⟩, ⟨e2, _⟩, e3, _⟩ := e
    rw [e0, e1, e2, e3]
    exact h
  · exact fun h => ⟨X0, X1, X2, X3, n0, n1, n2, n3, k0, k1, k2, k3, rfl, h⟩
def foot9 (t : Nat) (v : Value) (b : Nat) : Prop := if t = 72 ∨ t = 76 ∨ t = 80 then footV v b else v = .pointer (some ⟨b, 0, none⟩)
theorem foot9_v {t : Nat} (ht : t = 72 ∨ t = 76 ∨ t = 80) {v : Value} {b : Nat} : foot9 t v b ↔ footV v b := by
  unfold foot9
  rw [if_pos ht]
theorem foot9_b {t : Nat} (ht : ¬ (t = 72 ∨ t = 76 ∨ t = 80)) {v : Value} {b : Nat} : foot9 t v b ↔ v = .pointer (some ⟨b, 0, none⟩) := by
  unfold foot9
  rw [if_neg ht]
theorem spA_foot {z t q : Nat} {V0 V1 V2 V3 : List Lk} {v : Value} {w : World} (h : (spA z V0 V1 V2 V3).p v w) (ht : t = 72 ∨ t = 76 ∨ t = 80) (hf : foot9 t v q) : z ≤ q ∧ q < w.heap.size := by
  obtain ⟨g0, g1, g2, g3, rfl, ⟨i0, i1, i2, i3⟩, h0, h1, h2, h3⟩ := h
  rcases footV_iff.1 ((foot9_v ht).1 hf) with hq | hq | hq | hq
  · have e : g0 = q := by simpa [blk] using hq
    exact e ▸ ⟨h0, i0.lt⟩
  · have e : g1 = q := by simpa [blk] using hq
    exact e ▸ ⟨h1, i1.lt⟩
  · have e : g2 = q := by simpa [blk] using hq
    exact e ▸ ⟨h2, i2.lt⟩
  · have e : g3 = q := by simpa [blk] using hq
    exact e ▸ ⟨h3, i3.lt⟩
theorem spJ_foot {z t q : Nat} {V0 V1 V2 V3 : List Lk} {v : Value} {w : World} (h : (spJ z V0 V1 V2 V3).p v w) (ht : t = 72 ∨ t = 76 ∨ t = 80) (hf : foot9 t v q) : z ≤ q ∧ q < w.heap.size := by
  obtain ⟨X0, X1, X2, X3, k0, k1, k2, k3, rfl, _, h9⟩ := h
  exact h9 _ (footV_iff.1 ((foot9_v ht).1 hf))
theorem box_foot {z t q : Nat} {ty : TypeId} {cs : Array Value} {v : Value} {w : World} (h : (Sp.box z ty cs).p v w) (ht : ¬ (t = 72 ∨ t = 76 ∨ t = 80)) (hf : foot9 t v q) : z ≤ q ∧ q < w.heap.size := by
  obtain ⟨b, rfl, i, hz⟩ := h
  have e : b = q := by simpa using (foot9_b ht).1 hf
  exact e ▸ ⟨hz, i.lt⟩
theorem spA_low {z z' : Nat} (hz : z ≤ z') {V0 V1 V2 V3 : List Lk} {v : Value} {w : World} (h : (spA z' V0 V1 V2 V3).p v w) : (spA z V0 V1 V2 V3).p v w := by
  obtain ⟨g0, g1, g2, g3, hv, i, h0, h1, h2, h3⟩ := h
  exact ⟨g0, g1, g2, g3, hv, i, Nat.le_trans hz h0, Nat.le_trans hz h1, Nat.le_trans hz h2, Nat.le_trans hz h3⟩
theorem spJ_low {z z' : Nat} (hz : z ≤ z') {V0 V1 V2 V3 : List Lk} {v : Value} {w : World} (h : (spJ z' V0 V1 V2 V3).p v w) : (spJ z V0 V1 V2 V3).p v w := by
  obtain ⟨X0, X1, X2, X3, k0, k1, k2, k3, hv, r, h9⟩ := h
  exact ⟨X0, X1, X2, X3, k0, k1, k2, k3, hv, r, fun q hq => ⟨Nat.le_trans hz (h9 q hq).1, (h9 q hq).2⟩⟩
section
variable {w w' W : World} {z g0 g1 g2 g3 b10 b11 b12 : Nat} {V0 V1 V2 V3 : List Lk}
theorem Bq_in (i0 : Is w g0 59 (cellsL V0).toArray) (i1 : Is w g1 59 (cellsL V1).toArray) (i2 : Is w g2 59 (cellsL V2).toArray) (i3 : Is w g3 59 (cellsL V3).toArray) (h0 : z ≤ g0) (h1 : z ≤ g1) (h2 : z ≤ g2) (h3 : z ≤ g3) (hs : w.heap.size ≤ w'.heap.size) :
    ∀ q, Bq (some ⟨g0, 0, none⟩) (some ⟨g1, 0, none⟩) (some ⟨g2, 0, none⟩) (some ⟨g3, 0, none⟩) q → z ≤ q ∧ q < w'.heap.size := fun q hq => by
  rcases hq with hq | hq | hq | hq
  · have e : g0 = q := by simpa [blk] using hq
    exact e ▸ ⟨h0, Nat.lt_of_lt_of_le i0.lt hs⟩
  · have e : g1 = q := by simpa [blk] using hq
    exact e ▸ ⟨h1, Nat.lt_of_lt_of_le i1.lt hs⟩
  · have e : g2 = q := by simpa [blk] using hq
    exact e ▸ ⟨h2, Nat.lt_of_lt_of_le i2.lt hs⟩
  · have e : g3 = q := by simpa [blk] using hq
    exact e ▸ ⟨h3, Nat.lt_of_lt_of_le i3.lt hs⟩
theorem Wl4.of (i0 : Is w g0 59 (cellsL V0).toArray) (i1 : Is w g1 59 (cellsL V1).toArray) (i2 : Is w g2 59 (cellsL V2).toArray) (i3 : Is w g3 59 (cellsL V3).toArray) : Wl4 w (Bq (some ⟨g0, 0, none⟩) (some ⟨g1, 0, none⟩) (some ⟨g2, 0, none⟩) (some ⟨g3, 0, none⟩)) (some ⟨g0, 0, none⟩) (some ⟨g1, 0, none⟩) (some ⟨g2, 0, none⟩) (some ⟨g3, 0, none⟩) V0 V1 V2 V3 :=
  ⟨Wl.of i0 (.inl rfl), Wl.of i1 (.inr (.inl rfl)), Wl.of i2 (.inr (.inr (.inl rfl))), Wl.of i3 (.inr (.inr (.inr rfl)))⟩
theorem R4.of (i0 : Is w g0 59 (cellsL V0).toArray) (i1 : Is w g1 59 (cellsL V1).toArray) (i2 : Is w g2 59 (cellsL V2).toArray) (i3 : Is w g3 59 (cellsL V3).toArray) : R4 w (some ⟨g0, 0, none⟩) (some ⟨g1, 0, none⟩) (some ⟨g2, 0, none⟩) (some ⟨g3, 0, none⟩) V0 V1 V2 V3 :=
  ⟨rd_is i0, rd_is i1, rd_is i2, rd_is i3⟩
theorem ne3 {P : Nat → Prop} (h0 : ∀ q, P q → q ≠ b10) (h1 : ∀ q, P q → q ≠ b11) (h2 : ∀ q, P q → q ≠ b12) : ∀ q, P q → ¬ (q = b10 ∨ q = b11 ∨ q = b12) := fun q h e => by
  rcases e with e | e | e
  · exact h0 q h e
  · exact h1 q h e
  · exact h2 q h e
theorem fr9 (h : Fr (fun _ => False) W.drew w) (f : Fr (fun q => q = b10 ∨ q = b11 ∨ q = b12) w w') (h0 : W.heap.size ≤ b10) (h1 : W.heap.size ≤ b11) (h2 : W.heap.size ≤ b12) : Fr (fun _ => False) W w' :=
  ((Fr.refl (fun _ => False) W).drew.trans h fun _ _ h => h).trans f fun q hq e => by
    rcases e with e | e | e <;> omega
theorem fr3 {W1 W2 W3 : World} (f0 : Fr (fun q => q = b10) w W1) (f1 : Fr (fun q => q = b11) W1 W2) (f2 : Fr (fun q => q = b12) W2 W3) : Fr (fun q => q = b10 ∨ q = b11 ∨ q = b12) w W3 :=
  ((f0.mono fun _ _ h => .inl h).trans (f1.mono fun _ _ h => .inr (.inl h)) fun _ _ h => h).trans (f2.mono fun _ _ h => .inr (.inr h)) fun _ _ h => h
end
def apart9 : List (Nat × Nat) := [(3, 72), (7, 76), (11, 80), (12, 10), (13, 11), (14, 12)]
theorem mem9 : ∀ p ∈ apart9, [69, 70, 71, 72, 73, 74, 75, 76, 77, 78, 79, 80, 10, 11, 12].contains p.2 = true ∧ p.2 < 114 := by decide
theorem no9 {i : Nat} (h : (apart9.all fun p => p.1 != i) = true) {v : Value} {w : World} : ∀ p ∈ apart9, p.1 = i → ∀ b, foot9 p.2 v b → w.heap.size ≤ b := fun p hp e => by
  rw [List.all_eq_true] at h
  have := h p hp
  simp [e] at this
theorem case9 {p : Nat × Nat} (hp : p ∈ apart9) : p = (3, 72) ∨ p = (7, 76) ∨ p = (11, 80) ∨ p = (12, 10) ∨ p = (13, 11) ∨ p = (14, 12) := by simpa [apart9] using hp
theorem enters_view (args : Array Value) (w : World) : (callFunc 21 args).run Try.prog w = .ok (.enter 21 args) w := by
  have h := Try.func21
  go_simp
theorem enters_jview (args : Array Value) (w : World) : (callFunc 22 args).run Try.prog w = .ok (.enter 22 args) w := by
  have h := Try.func22
  go_simp
section
variable {w : World} {z0 base b ob : Nat} {p : Jp} {C : Te.Cf} {n nJ : Nat} {M M' : Nat → Km} {ks oks : List Kc} {rs : List Kr}
/-- the program's View, as a slot holds it -/
theorem prog_view (h : Both w z0 base b ob p C n nJ M M' ks oks rs) (hs : Small C) (now : Int) (hnow : now ≤ 9223372036854775807) :
    Calls Try.prog 21 #[.pointer (some ⟨b, 0, none⟩), .int .i64 now] w fun e w' => ∃ v, e = .returned v ∧ (spA w.heap.size (vOcc C now ks) (vPos C now ks) (vShut C now ks) (vLamp C now ks)).p v w' ∧ Fr (fun _ => False) w w' := by
  have e0 : (vOcc C now ks).length = C.l.length := by rw [viewK_length, worstL_length]
  have e1 : (vPos C now ks).length = C.l.length := by rw [viewK_length, worstL_length]
  have e2 : (vShut C now ks).length = C.cr.length := by rw [viewK_length, worstL_length]
  have e3 : (vLamp C now ks).length = C.sg.length := by rw [viewK_length, worstL_length]
  refine (view_any h.im h.h4 hs h.fit now hnow).mono fun e w' ⟨vb, g0, g1, g2, g3, he, hvw, hvf, f⟩ => ⟨_, he, ⟨g0, g1, g2, g3, by rw [e0, e1, e2, e3], ⟨hvw.i0, hvw.i1, hvw.i2, hvw.i3⟩, hvf g0 ?_, hvf g1 ?_, hvf g2 ?_, hvf g3 ?_⟩, f⟩
  · exact .inl rfl
  · exact .inr (.inl rfl)
  · exact .inr (.inr (.inl rfl))
  · exact .inr (.inr (.inr rfl))
theorem ref_view (h : Both w z0 base b ob p C n nJ M M ks oks rs) (hC : C.Ok w) (hs : Small C) (now : Int) (hnow : now ≤ 9223372036854775807) :
    Calls Try.prog 22 #[.pointer (some ⟨p.b, 0, none⟩), .int .i64 now] w fun e w' => ∃ v, e = .returned v ∧ (spJ w.heap.size (vOcc C now ks) (vPos C now ks) (vShut C now ks) (vLamp C now ks)).p v w' ∧ Fr (fun _ => False) w w' := by
  have hm : ∀ j (hj : j < ks.length) (h' : j < rs.length), rs[j].m = ks[j].m := fun j hj h' => by rw [h.jeq j h', h.keq j hj]
  have K := jview_any h.jm hC hs h.z now hnow
  rw [occ_eq h.jm.h4 h.h4 hm h.fit now, pos_eq h.jm.h4 h.h4 hm h.fit now, shut_eq h.jm.h4 h.h4 hm h.fit now, lamp_eq h.jm.h4 h.h4 hm h.fit now] at K
  refine K.mono fun e w' ⟨vb, v0, v1, v2, v3, he, hv, f⟩ => ?_
  obtain ⟨X0, k0, rfl, _, _, _, _⟩ := wide_form hv.o0
  obtain ⟨X1, k1, rfl, _, _, _, _⟩ := wide_form hv.o1
  obtain ⟨X2, k2, rfl, _, _, _, _⟩ := wide_form hv.o2
  obtain ⟨X3, k3, rfl, _, _, _, _⟩ := wide_form hv.o3
  refine ⟨_, he, ⟨X0, X1, X2, X3, k0, k1, k2, k3, rfl, ⟨wide_rd hv.o0, wide_rd hv.o1, wide_rd hv.o2, wide_rd hv.o3⟩, fun q hq => ?_⟩, f⟩
  rcases hq with hq | hq | hq | hq
  · exact World.ownsRow.lt hv.o0 q (by rw [Row.own]; exact hq)
  · exact World.ownsRow.lt hv.o1 q (by rw [Row.own]; exact hq)
  · exact World.ownsRow.lt hv.o2 q (by rw [Row.own]; exact hq)
  · exact World.ownsRow.lt hv.o3 q (by rw [Row.own]; exact hq)
end
end Go.Proofs.Ytfmhfngilimhjaa.Im

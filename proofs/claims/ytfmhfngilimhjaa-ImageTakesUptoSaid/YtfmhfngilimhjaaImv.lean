/- The contracts of the image's calls: unknown, put, show, View. -/
import Derived.Test.YtfmhfngilimhjaaImt
import Derived.Deep.Cut
namespace Go.Proofs.Ytfmhfngilimhjaa.Im
open Go.RowKit Li

/-- a look -/
structure Lk where
  v : Int
  z : Int
  b : Bool
def Lk.cells (x : Lk) : List Value := [.int .i64 x.v, .int .i64 x.z, .bool x.b]
def cellsL (l : List Lk) : List Value := l.flatMap Lk.cells
theorem cellsL_length : ∀ l : List Lk, (cellsL l).length = l.length * 3
  | [] => rfl
  | x :: l => by
    show (x.cells ++ cellsL l).length = _
    rw [List.length_append, cellsL_length l, List.length_cons]
    show 3 + _ = _
    omega
theorem cellsL_at : ∀ (l : List Lk) (j : Nat), (cellsL l)[j]? = (l[j / 3]?).bind fun x => x.cells[j % 3]?
  | [], _ => rfl
  | x :: l, j => by
    show (x.cells ++ cellsL l)[j]? = _
    by_cases h : j < 3
    · rw [List.getElem?_append_left (by exact h), show j / 3 = 0 by omega, show j % 3 = j by omega]
      rfl
    · rw [List.getElem?_append_right (by show 3 ≤ j; omega), show j - x.cells.length = j - 3 from rfl, cellsL_at l (j - 3), show j / 3 = (j - 3) / 3 + 1 by omega, show j % 3 = (j - 3) % 3 by omega, List.getElem?_cons_succ]
theorem cellsL_set {l : List Lk} {k : Nat} (hk : k < l.length) (x : Lk) : splice (cellsL l).toArray (k * 3) x.cells = (cellsL (l.set k x)).toArray := by
  have hl := cellsL_length l
  have hx : x.cells.length = 3 := rfl
  apply Array.ext_getElem?
  intro i
  rw [splice_at _ _ _ _ (by simp; omega), List.getElem?_toArray, List.getElem?_toArray, cellsL_at, cellsL_at]
  by_cases c : k * 3 ≤ i ∧ i < k * 3 + x.cells.length
  · rw [if_pos c, show i / 3 = k by omega, List.getElem?_set_self hk, show i % 3 = i - k * 3 by omega]
    rfl
  · rw [if_neg c, List.getElem?_set_ne (by omega)]
theorem look_cells {w : World} {g : Nat} {t : TypeId} {l : List Lk} (h : Is w g t (cellsL l).toArray) {k : Nat} (hk : k < l.length) : w.cell? ⟨g, k * 3, none⟩ = some (.int .i64 l[k].v) ∧ w.cell? ⟨g, k * 3 + 1, none⟩ = some (.int .i64 l[k].z) ∧ w.cell? ⟨g, k * 3 + 2, none⟩ = some (.bool l[k].b) := by
  refine ⟨?_, ?_, ?_⟩
  · rw [h.cell, List.getElem?_toArray, cellsL_at, show k * 3 / 3 = k by omega, show k * 3 % 3 = 0 by omega, List.getElem?_eq_getElem hk]
    rfl
  · rw [h.cell, List.getElem?_toArray, cellsL_at, show (k * 3 + 1) / 3 = k by omega, show (k * 3 + 1) % 3 = 1 by omega, List.getElem?_eq_getElem hk]
    rfl
  · rw [h.cell, List.getElem?_toArray, cellsL_at, show (k * 3 + 2) / 3 = k by omega, show (k * 3 + 2) % 3 = 2 by omega, List.getElem?_eq_getElem hk]
    rfl
theorem look_set {w : World} {g : Nat} {t : TypeId} {l : List Lk} (h : Is w g t (cellsL l).toArray) {k : Nat} (hk : k < l.length) (v z : Int) (b : Bool) :
    Is (((w.setCell ⟨g, k * 3, none⟩ (.int .i64 v)).setCell ⟨g, k * 3 + 1, none⟩ (.int .i64 z)).setCell ⟨g, k * 3 + 2, none⟩ (.bool b)) g t (cellsL (l.set k ⟨v, z, b⟩)).toArray := by
  rw [← cellsL_set hk]
  exact Is.setCells [.int .i64 v, .int .i64 z, .bool b] (k * 3) w _ h
theorem made_looks : ∀ n : Nat, madeCells #[.int .i64 0, .int .i64 0, .bool false] (n * 3) = (cellsL (List.replicate n ⟨0, 0, false⟩)).toArray
  | 0 => by simp [madeCells, cellsL]
  | n + 1 => by
    have ih := made_looks n
    have e : (n + 1) * 3 = n * 3 + 1 + 1 + 1 := by omega
    unfold madeCells at ih ⊢
    rw [e, Array.range_succ, Array.range_succ, Array.range_succ, List.replicate_succ']
    unfold cellsL at ih ⊢
    rw [List.flatMap_append, ← List.append_toArray, ← ih]
    have s3 : (#[Value.int .i64 0, .int .i64 0, .bool false] : Array Value).size = 3 := rfl
    simp only [s3, Array.map_append, Array.append_assoc]
    congr 1
    have m0 : n * 3 % 3 = 0 := by omega
    have m1 : (n * 3 + 1) % 3 = 1 := by omega
    have m2 : (n * 3 + 2) % 3 = 2 := by omega
    simp only [List.map_toArray, List.map_cons, List.map_nil, m0, m1, m2]
    rfl
theorem Try.infoL : (Try.prog.info? 59).map (fun i => (i.zero, i.size, i.bytes)) = some (some (.agg #[.int .i64 0, .int .i64 0, .bool false]), 3, 24) := by kernel_rfl
theorem mk_looks (n : Nat) (hn : n ≤ 1048576) (W : World) : (Instr.makeSlice 53 (.int .i64 (n : Int)) (.int .i64 (n : Int))).run Try.prog W = .ok (.slice (some ⟨W.heap.size, 0, none⟩) n n) (W.alloc (.cells (cellsL (List.replicate n ⟨0, 0, false⟩)).toArray 59)) := by
  obtain ⟨i0, hi, hz0, hz1, hz2⟩ := info_parts Try.infoL
  have h := run_make (P := Try.prog) W 53 59 i0 (.agg #[.int .i64 0, .int .i64 0, .bool false]) Try.underlying53 hi hz0 .i64 .i64 n n (by omega) (by omega) (by rw [hz2]; omega) (by omega)
  rw [hz1] at h
  simp only [Int.toNat_natCast] at h
  rw [h, ← made_looks]
  rfl

theorem unknown_any (n : Nat) (worst : Int) (w : World) (hn : n ≤ 1048576) :
    Calls Try.prog 49 #[.int .i64 (n : Int), .int .i64 worst] w fun e w' => e = .returned (.slice (some ⟨w.heap.size, 0, none⟩) n n) ∧ Is w' w.heap.size 59 (cellsL (List.replicate n ⟨worst, -1, false⟩)).toArray ∧ Fr (fun _ => False) w w' := by
  have hmk := fun W => mk_looks n hn W
  have HN := Lib.hid hn
  clear hn
  go_enter Try.func49, Try.ntmps49
  go_wp2_with fail
  have i0 := Is.new w 59 (cellsL (List.replicate n ⟨0, 0, false⟩)).toArray
  have f0 := (Fr.refl (fun _ => False) w).alloc (.cells (cellsL (List.replicate n ⟨0, 0, false⟩)).toArray 59)
  generalize w.alloc (.cells (cellsL (List.replicate n ⟨0, 0, false⟩)).toArray 59) = w0 at *
  clear hmk
  go_loopw [11] (fun i wr => ∃ (k : Nat), k ≤ n ∧ i = .int .i64 (k : Nat) ∧ Is wr w.heap.size 59 (cellsL (List.replicate k ⟨worst, -1, false⟩ ++ List.replicate (n - k) ⟨0, 0, false⟩)).toArray ∧ Fr (fun _ => False) w wr) (fun i _ => n - (intOf i).toNat)
  case atStart => exact ⟨0, Nat.zero_le _, rfl, i0, f0⟩
  case round =>
    clear i0 f0
    obtain ⟨k, hk, rfl, is, fr⟩ := hrel
    have hn9 : (n : Int) ≤ 1048576 := by have := HN.out; omega
    by_cases hlt : k < n
    · have hl : k < (List.replicate k (Lk.mk worst (-1) false) ++ List.replicate (n - k) (Lk.mk 0 0 false)).length := by simp; omega
      have c := look_cells is hl
      have z0 := is.frozen (k * 3)
      have z1 := is.frozen (k * 3 + 1)
      have z2 := is.frozen (k * 3 + 2)
      have i2 := look_set is hl worst (-1) false
      rw [List.set_append_right _ _ (by simp), List.length_replicate, Nat.sub_self, show n - k = (n - (k + 1)) + 1 by omega, List.replicate_succ, List.set_cons_zero, ← List.singleton_append, ← List.append_assoc, ← List.replicate_succ'] at i2
      have f2 := ((fr.setCell (p := ⟨w.heap.size, k * 3, none⟩) (.inr (Nat.le_refl _)) (.int .i64 worst)).setCell (p := ⟨w.heap.size, k * 3 + 1, none⟩) (.inr (Nat.le_refl _)) (.int .i64 (-1))).setCell (p := ⟨w.heap.size, k * 3 + 2, none⟩) (.inr (Nat.le_refl _)) (.bool false)
      have I2 := Lib.hid i2
      have F2 := Lib.hid f2
      clear is i2 f2
      go_wp2_with fail
      go_roundw
      case rel => exact ⟨k + 1, by omega, by go_num, I2.out, F2.out⟩
      case measure => simp [intOf]; omega
    · have e : k = n := by omega
      subst e
      go_wp2_with fail
      go_ret
      rw [Nat.sub_self, List.replicate_zero, List.append_nil] at is
      exact ⟨rfl, is, fr⟩

/-- what a report says of these elements, one value each -/
def putL (z : Int) : List Lk → List Int → List Int → List Lk
  | L, e :: es, v :: vs => putL z (L.set e.toNat ⟨v, z, true⟩) es vs
  | L, _, _ => L
theorem putL_snoc (z : Int) (e v : Int) : ∀ (es vs : List Int) (L : List Lk), es.length = vs.length → putL z L (es ++ [e]) (vs ++ [v]) = (putL z L es vs).set e.toNat ⟨v, z, true⟩
  | [], [], _, _ => rfl
  | e0 :: es, v0 :: vs, L, h => putL_snoc z e v es vs _ (by simpa using h)
  | [], _ :: _, _, h => by simp at h
  | _ :: _, [], _, h => by simp at h
theorem putL_length (z : Int) : ∀ (es vs : List Int) (L : List Lk), (putL z L es vs).length = L.length
  | [], _, _ => rfl
  | _ :: _, [], _ => rfl
  | e :: es, v :: vs, L => by
    show (putL z (L.set e.toNat _) es vs).length = _
    rw [putL_length z es vs, List.length_set]
theorem rd_l {w : World} {x : Te.L3} (h : x.Ok w) {k : Nat} (hk : k < x.l.length) : ∃ g o, x.A = some ⟨g, o, none⟩ ∧ g < w.heap.size ∧ w.cell? ⟨g, o + k, none⟩ = some (.int .i64 x.l[k]) := Te.rd_int h.rd hk

theorem look_keep {W : World} {g k q i : Nat} {u v0 v1 v2 : Value} (h : W.cell? ⟨q, i, none⟩ = some u) (hq : q ≠ g) : (((W.setCell ⟨g, k * 3, none⟩ v0).setCell ⟨g, k * 3 + 1, none⟩ v1).setCell ⟨g, k * 3 + 2, none⟩ v2).drew.cell? ⟨q, i, none⟩ = some u := by
  rw [World.cell?_drew]
  have f := (((Fr.refl (fun q => q = g) W).setCell (p := ⟨g, k * 3, none⟩) (.inl rfl) v0).setCell (p := ⟨g, k * 3 + 1, none⟩) (.inl rfl) v1).setCell (p := ⟨g, k * 3 + 2, none⟩) (.inl rfl) v2
  exact (f.cell (p := ⟨q, i, none⟩) (World.block_lt_of_cell? _ _ h) hq).trans h
set_option maxHeartbeats 1000000 in
theorem put_any {w : World} {b o g : Nat} {z : Int} {vs es : Te.L3} {L : List Lk} (hc : w.cell? ⟨b, o + 4, none⟩ = some (.int .i64 z)) (hL : Is w g 59 (cellsL L).toArray) (hvs : vs.Ok w) (hes : es.Ok w) (hlen : vs.l.length = es.l.length)
    (hin : ∀ e ∈ es.l, 0 ≤ e ∧ e < (L.length : Int)) (ov : vs.Off fun q => q = g) (oe : es.Off fun q => q = g) (hb : b ≠ g) :
    Calls Try.prog 77 #[.pointer (some ⟨b, o, none⟩), .slice (some ⟨g, 0, none⟩) L.length L.length, vs.val, es.val] w fun e w' => e = .returned (.tuple #[]) ∧ Is w' g 59 (cellsL (putL z L es.l vs.l)).toArray ∧ Fr (fun q => q = g) w w' := by
  have hblt := World.block_lt_of_cell? _ _ hc
  obtain ⟨vA, vl, vc⟩ := vs
  obtain ⟨eA, el, ec⟩ := es
  simp only at hlen hin
  have HC := Lib.hid hc
  have HV := Lib.hid hvs
  have HE := Lib.hid hes
  have HO := Lib.hid (And.intro ov oe)
  have hle := hes.le
  simp only at hle
  unfold Te.L3.val
  clear hc hvs hes ov oe
  go_enter Try.func77, Try.ntmps77
  go_wp2_with fail
  go_loopw [12] (fun i wr => ∃ (k : Nat), k ≤ el.length ∧ i = .int .i64 (k : Nat) ∧ Is wr g 59 (cellsL (putL z L (el.take k) (vl.take k))).toArray ∧ Fr (fun q => q = g) w wr) (fun i _ => el.length - (intOf i).toNat)
  case atStart => exact ⟨0, Nat.zero_le _, rfl, hL, Fr.refl _ _⟩
  case round =>
    clear hL
    obtain ⟨k, hk, rfl, is, fr⟩ := hrel
    by_cases hlt : k < el.length
    · have hlv : k < vl.length := by omega
      obtain ⟨ge, oe, hae, hge, c1⟩ := rd_l (HE.out.fr' fr HO.out.2) hlt
      obtain ⟨gv, ov, hav, hgv, c2⟩ := rd_l (HV.out.fr' fr HO.out.1) hlv
      simp only at hae hav c1 c2
      subst hae hav
      have c3 := (fr.cell (p := ⟨b, o + 4, none⟩) hblt hb).trans HC.out
      obtain ⟨h0, h1⟩ := hin el[k] (List.getElem_mem hlt)
      obtain ⟨m, hm⟩ : ∃ m : Nat, el[k] = (m : Int) := ⟨el[k].toNat, by omega⟩
      have hpl := putL_length z (el.take k) (vl.take k) L
      have hml : m < (putL z L (el.take k) (vl.take k)).length := by omega
      have hsn := putL_snoc z el[k] vl[k] (el.take k) (vl.take k) L (by simp; omega)
      rw [← List.take_succ_eq_append_getElem hlt, ← List.take_succ_eq_append_getElem hlv, hm, Int.toNat_natCast] at hsn
      rw [hm] at c1 h1
      have hmL : (m : Int) < (L.length : Int) := h1
      generalize vl[k] = v at *
      have i2 := look_set is hml v z true
      rw [← hsn] at i2
      have c := look_cells is hml
      have z0 := is.frozen (m * 3)
      have z1 := is.frozen (m * 3 + 1)
      have z2 := is.frozen (m * 3 + 2)
      have f2 := ((fr.setCell (p := ⟨g, m * 3, none⟩) (.inl rfl) (.int .i64 v)).setCell (p := ⟨g, m * 3 + 1, none⟩) (.inl rfl) (.int .i64 z)).setCell (p := ⟨g, m * 3 + 2, none⟩) (.inl rfl) (.bool true)
      have I2 := Lib.hid i2
      have F2 := Lib.hid f2
      generalize (putL z L (el.take k) (vl.take k))[m] = lk at c
      have hgv2 : gv ≠ g := fun e => HO.out.1 (by show 0 < vl.length; omega) gv rfl e
      have c2d : wr.drew.cell? ⟨gv, ov + k, none⟩ = some (.int .i64 v) := c2
      have c3d : wr.drew.cell? ⟨b, o + 4, none⟩ = some (.int .i64 z) := c3
      clear is i2 f2 hsn hm h0 hpl hml
      go_wp2_with fail
      go_region_held3 (fun Wx => Wx.cell? ⟨gv, ov + k, none⟩ = some (.int .i64 v) ∧ Wx.cell? ⟨b, o + 4, none⟩ = some (.int .i64 z)) (first | with_reducible exact ⟨c2d, c3d⟩ | exact ⟨look_keep c2 hgv2, look_keep c3 hb⟩) (fail)
      rename_i hHeld
      clear hHeld
      go_wp2_with fail
      go_roundw
      case rel => exact ⟨k + 1, by omega, by go_num, Is.drew I2.out, F2.out.drew⟩
      case measure => simp [intOf]; omega
    · have e : k = el.length := by omega
      subst e
      go_wp2_with fail
      go_end0
      rw [List.take_length, ← hlen, List.take_length] at is
      exact ⟨rfl, is, fr⟩

/-- A view that is put together: its block, and the four rows of looks. -/
structure Vw (w : World) (vb g0 g1 g2 g3 : Nat) (L0 L1 L2 L3 : List Lk) : Prop where
  is : Is w vb 55 #[.slice (some ⟨g0, 0, none⟩) L0.length L0.length, .slice (some ⟨g1, 0, none⟩) L1.length L1.length, .slice (some ⟨g2, 0, none⟩) L2.length L2.length, .slice (some ⟨g3, 0, none⟩) L3.length L3.length]
  i0 : Is w g0 59 (cellsL L0).toArray
  i1 : Is w g1 59 (cellsL L1).toArray
  i2 : Is w g2 59 (cellsL L2).toArray
  i3 : Is w g3 59 (cellsL L3).toArray
  n01 : g0 ≠ g1
  n02 : g0 ≠ g2
  n03 : g0 ≠ g3
  n12 : g1 ≠ g2
  n13 : g1 ≠ g3
  n23 : g2 ≠ g3
theorem is_ne {w : World} {a b : Nat} {t u : TypeId} {cs ds : Array Value} (h : Is w a t cs) (k : Is w b u ds) (ht : t ≠ u) : a ≠ b := fun e => by
  subst e
  unfold Is at h k
  rw [h] at k
  injection k with k
  injection k with _ k
  exact ht k
def Vw.foot (g0 g1 g2 g3 : Nat) (q : Nat) : Prop := q = g0 ∨ q = g1 ∨ q = g2 ∨ q = g3
theorem Vw.f0 {g0 g1 g2 g3 q : Nat} (hq : q = g0) : Vw.foot g0 g1 g2 g3 q := .inl hq
theorem Vw.f1 {g0 g1 g2 g3 q : Nat} (hq : q = g1) : Vw.foot g0 g1 g2 g3 q := .inr (.inl hq)
theorem Vw.f2 {g0 g1 g2 g3 q : Nat} (hq : q = g2) : Vw.foot g0 g1 g2 g3 q := .inr (.inr (.inl hq))
theorem Vw.f3 {g0 g1 g2 g3 q : Nat} (hq : q = g3) : Vw.foot g0 g1 g2 g3 q := .inr (.inr (.inr hq))
theorem Vw.fr {w w1 : World} {vb g0 g1 g2 g3 : Nat} {L0 L1 L2 L3 : List Lk} {S : Nat → Prop} (h : Vw w vb g0 g1 g2 g3 L0 L1 L2 L3) (f : Fr S w w1) (hv : ¬ S vb) (hs : ∀ q, Vw.foot g0 g1 g2 g3 q → ¬ S q) : Vw w1 vb g0 g1 g2 g3 L0 L1 L2 L3 :=
  ⟨h.is.fr f hv, h.i0.fr f (hs _ (.inl rfl)), h.i1.fr f (hs _ (.inr (.inl rfl))), h.i2.fr f (hs _ (.inr (.inr (.inl rfl)))), h.i3.fr f (hs _ (.inr (.inr (.inr rfl)))), h.n01, h.n02, h.n03, h.n12, h.n13, h.n23⟩
def InR (l : List Int) (n : Nat) : Prop := ∀ e ∈ l, 0 ≤ e ∧ e < (n : Int)
set_option maxHeartbeats 4000000 in
theorem show_any {w : World} {b vb g0 g1 g2 g3 : Nat} {ks : List Kc} {C : Te.Cf} {L0 L1 L2 L3 : List Lk} (h : Im w b ks C) {j : Nat} (hj : j < ks.length) {k : Kc} (hk : ks[j] = k) (hv : Vw w vb g0 g1 g2 g3 L0 L1 L2 L3)
    (hb : ¬ Vw.foot g0 g1 g2 g3 b) (oh : k.h.Off (Vw.foot g0 g1 g2 g3)) (os_ : k.s.Off (Vw.foot g0 g1 g2 g3))
    (e0 : k.s.occ.l.length = k.h.occ.l.length) (e1 : k.s.pos.l.length = k.h.pos.l.length) (e2 : k.s.shut.l.length = k.h.shut.l.length) (e3 : k.s.lamp.l.length = k.h.lamp.l.length)
    (r0 : InR k.h.occ.l L0.length) (r1 : InR k.h.pos.l L1.length) (r2 : InR k.h.shut.l L2.length) (r3 : InR k.h.lamp.l L3.length) :
    Calls Try.prog 50 #[.pointer (some ⟨b, j * 10, none⟩), .pointer (some ⟨vb, 0, none⟩)] w fun e w' => e = .returned (.tuple #[]) ∧ Vw w' vb g0 g1 g2 g3 (putL k.z L0 k.h.occ.l k.s.occ.l) (putL k.z L1 k.h.pos.l k.s.pos.l) (putL k.z L2 k.h.shut.l k.s.shut.l) (putL k.z L3 k.h.lamp.l k.s.lamp.l) ∧ Fr (Vw.foot g0 g1 g2 g3) w w' := by
  have hm := hk ▸ List.getElem_mem hj
  have HK0 := h.ok _ hm
  have hbv : ∀ q, Vw.foot g0 g1 g2 g3 q → b ≠ q := fun q hq e => hb (e ▸ hq)
  have K0 := fun (W : World) (hc : W.cell? ⟨b, j * 10 + 5 + 4, none⟩ = some (.int .i64 k.z)) (hL : Is W g0 59 (cellsL L0).toArray) (hvs : k.s.occ.Ok W) (hes : k.h.occ.Ok W) => put_any hc hL hvs hes e0 r0 (os_.occ.mono fun q hq => by subst hq; exact Or.inl rfl) (oh.occ.mono fun q hq => by subst hq; exact Or.inl rfl) (hbv _ (Or.inl rfl))
  have K1 := fun (W : World) (hc : W.cell? ⟨b, j * 10 + 5 + 4, none⟩ = some (.int .i64 k.z)) (hL : Is W g1 59 (cellsL L1).toArray) (hvs : k.s.pos.Ok W) (hes : k.h.pos.Ok W) => put_any hc hL hvs hes e1 r1 (os_.pos.mono fun q hq => by subst hq; exact Or.inr (Or.inl rfl)) (oh.pos.mono fun q hq => by subst hq; exact Or.inr (Or.inl rfl)) (hbv _ (Or.inr (Or.inl rfl)))
  have K2 := fun (W : World) (hc : W.cell? ⟨b, j * 10 + 5 + 4, none⟩ = some (.int .i64 k.z)) (hL : Is W g2 59 (cellsL L2).toArray) (hvs : k.s.shut.Ok W) (hes : k.h.shut.Ok W) => put_any hc hL hvs hes e2 r2 (os_.shut.mono fun q hq => by subst hq; exact Or.inr (Or.inr (Or.inl rfl))) (oh.shut.mono fun q hq => by subst hq; exact Or.inr (Or.inr (Or.inl rfl))) (hbv _ (Or.inr (Or.inr (Or.inl rfl))))
  have K3 := fun (W : World) (hc : W.cell? ⟨b, j * 10 + 5 + 4, none⟩ = some (.int .i64 k.z)) (hL : Is W g3 59 (cellsL L3).toArray) (hvs : k.s.lamp.Ok W) (hes : k.h.lamp.Ok W) => put_any hc hL hvs hes e3 r3 (os_.lamp.mono fun q hq => by subst hq; exact Or.inr (Or.inr (Or.inr rfl))) (oh.lamp.mono fun q hq => by subst hq; exact Or.inr (Or.inr (Or.inr rfl))) (hbv _ (Or.inr (Or.inr (Or.inr rfl))))
  have HV := Lib.hid hv
  have HI := Lib.hid h
  have HO := Lib.hid (And.intro oh os_)
  have HBV := Lib.hid hbv
  unfold Te.L3.val at K0 K1 K2 K3
  have vne : ∀ q, Vw.foot g0 g1 g2 g3 q → vb ≠ q := fun q hq => by
    rcases hq with rfl | rfl | rfl | rfl
    · exact is_ne hv.is hv.i0 (by decide)
    · exact is_ne hv.is hv.i1 (by decide)
    · exact is_ne hv.is hv.i2 (by decide)
    · exact is_ne hv.is hv.i3 (by decide)
  have HVN := Lib.hid vne
  have cs0 := h.ctlf hj hk
  obtain ⟨_, h0, h1, h2, h3, s0, s1, s2, s3, zc⟩ := cs0
  obtain ⟨v0, v1, v2, v3⟩ := Te.four_cells hv.is
  have CA : Hid (∀ W, Fr (Vw.foot g0 g1 g2 g3) w W → W.cell? ⟨b, j * 10 + 1, none⟩ = some (.slice k.h.occ.A k.h.occ.l.length k.h.occ.c) ∧ W.cell? ⟨b, j * 10 + 1 + 1, none⟩ = some (.slice k.h.pos.A k.h.pos.l.length k.h.pos.c) ∧ W.cell? ⟨b, j * 10 + 1 + 2, none⟩ = some (.slice k.h.shut.A k.h.shut.l.length k.h.shut.c) ∧ W.cell? ⟨b, j * 10 + 1 + 3, none⟩ = some (.slice k.h.lamp.A k.h.lamp.l.length k.h.lamp.c) ∧ W.cell? ⟨b, j * 10 + 5, none⟩ = some (.slice k.s.occ.A k.s.occ.l.length k.s.occ.c) ∧ W.cell? ⟨b, j * 10 + 5 + 1, none⟩ = some (.slice k.s.pos.A k.s.pos.l.length k.s.pos.c) ∧ W.cell? ⟨b, j * 10 + 5 + 2, none⟩ = some (.slice k.s.shut.A k.s.shut.l.length k.s.shut.c) ∧ W.cell? ⟨b, j * 10 + 5 + 3, none⟩ = some (.slice k.s.lamp.A k.s.lamp.l.length k.s.lamp.c) ∧ W.cell? ⟨b, j * 10 + 5 + 4, none⟩ = some (.int .i64 k.z) ∧ W.cell? ⟨vb, 0, none⟩ = some (.slice (some ⟨g0, 0, none⟩) L0.length L0.length) ∧ W.cell? ⟨vb, 1, none⟩ = some (.slice (some ⟨g1, 0, none⟩) L1.length L1.length) ∧ W.cell? ⟨vb, 2, none⟩ = some (.slice (some ⟨g2, 0, none⟩) L2.length L2.length) ∧ W.cell? ⟨vb, 3, none⟩ = some (.slice (some ⟨g3, 0, none⟩) L3.length L3.length)) := Lib.hid fun W f => ⟨(f.cell (p := ⟨b, j * 10 + 1, none⟩) (World.block_lt_of_cell? _ _ h0) (fun q => HBV.out _ q rfl)).trans h0, (f.cell (p := ⟨b, j * 10 + 1 + 1, none⟩) (World.block_lt_of_cell? _ _ h1) (fun q => HBV.out _ q rfl)).trans h1, (f.cell (p := ⟨b, j * 10 + 1 + 2, none⟩) (World.block_lt_of_cell? _ _ h2) (fun q => HBV.out _ q rfl)).trans h2, (f.cell (p := ⟨b, j * 10 + 1 + 3, none⟩) (World.block_lt_of_cell? _ _ h3) (fun q => HBV.out _ q rfl)).trans h3, (f.cell (p := ⟨b, j * 10 + 5, none⟩) (World.block_lt_of_cell? _ _ s0) (fun q => HBV.out _ q rfl)).trans s0, (f.cell (p := ⟨b, j * 10 + 5 + 1, none⟩) (World.block_lt_of_cell? _ _ s1) (fun q => HBV.out _ q rfl)).trans s1, (f.cell (p := ⟨b, j * 10 + 5 + 2, none⟩) (World.block_lt_of_cell? _ _ s2) (fun q => HBV.out _ q rfl)).trans s2, (f.cell (p := ⟨b, j * 10 + 5 + 3, none⟩) (World.block_lt_of_cell? _ _ s3) (fun q => HBV.out _ q rfl)).trans s3, (f.cell (p := ⟨b, j * 10 + 5 + 4, none⟩) (World.block_lt_of_cell? _ _ zc) (fun q => HBV.out _ q rfl)).trans zc, (f.cell (p := ⟨vb, 0, none⟩) (World.block_lt_of_cell? _ _ v0) (fun q => HVN.out _ q rfl)).trans v0, (f.cell (p := ⟨vb, 1, none⟩) (World.block_lt_of_cell? _ _ v1) (fun q => HVN.out _ q rfl)).trans v1, (f.cell (p := ⟨vb, 2, none⟩) (World.block_lt_of_cell? _ _ v2) (fun q => HVN.out _ q rfl)).trans v2, (f.cell (p := ⟨vb, 3, none⟩) (World.block_lt_of_cell? _ _ v3) (fun q => HVN.out _ q rfl)).trans v3⟩
  clear e0 e1 e2 e3 r0 r1 r2 r3 h0 h1 h2 h3 s0 s1 s2 s3 zc v0 v1 v2 v3 h hv hbv vne hb oh os_
  have NE01 : Hid (¬ (fun q => q = g0) g1) := Lib.hid fun e => HV.out.n01 e.symm
  have NE02 : Hid (¬ (fun q => q = g0) g2) := Lib.hid fun e => HV.out.n02 e.symm
  have NE03 : Hid (¬ (fun q => q = g0) g3) := Lib.hid fun e => HV.out.n03 e.symm
  have NE12 : Hid (¬ (fun q => q = g1) g2) := Lib.hid fun e => HV.out.n12 e.symm
  have NE13 : Hid (¬ (fun q => q = g1) g3) := Lib.hid fun e => HV.out.n13 e.symm
  have NE23 : Hid (¬ (fun q => q = g2) g3) := Lib.hid fun e => HV.out.n23 e.symm
  have F0 : Hid (Fr (Vw.foot g0 g1 g2 g3) w w) := Lib.hid (Fr.refl _ _)
  go_enter Try.func50, Try.ntmps50
  go_wp2_with fail
  have a0 := CA.out _ F0.out
  have b0 := CA.out _ (F0.out.drew)
  obtain ⟨x0, y0, z0⟩ : (w.drew.cell? ⟨b, j * 10 + 1, none⟩ = some (.slice k.h.occ.A k.h.occ.l.length k.h.occ.c) ∧ w.drew.cell? ⟨b, j * 10 + 5, none⟩ = some (.slice k.s.occ.A k.s.occ.l.length k.s.occ.c) ∧ w.drew.cell? ⟨vb, 0, none⟩ = some (.slice (some ⟨g0, 0, none⟩) L0.length L0.length)) := ⟨b0.1, b0.2.2.2.2.1, b0.2.2.2.2.2.2.2.2.2.1⟩
  have c0 : w.drew.cell? ⟨b, j * 10 + 5 + 4, none⟩ = some (.int .i64 k.z) := b0.2.2.2.2.2.2.2.2.1
  clear a0 b0
  go_region_held3 (fun Wx => Wx.cell? ⟨b, j * 10 + 1, none⟩ = some (.slice k.h.occ.A k.h.occ.l.length k.h.occ.c) ∧ Wx.cell? ⟨b, j * 10 + 5, none⟩ = some (.slice k.s.occ.A k.s.occ.l.length k.s.occ.c) ∧ Wx.cell? ⟨vb, 0, none⟩ = some (.slice (some ⟨g0, 0, none⟩) L0.length L0.length)) (first | with_reducible exact ⟨x0, y0, z0⟩ | with_reducible exact ⟨x0', y0', z0'⟩) (first | (go_at_call 77; with_reducible refine (K0 _ c0 (HV.out.i0.drew) ((HK0.s.off F0.out HO.out.2).occ.fr' (Fr.refl (fun _ => False) _).drew fun _ _ _ => id) ((HK0.h.off F0.out HO.out.1).occ.fr' (Fr.refl (fun _ => False) _).drew fun _ _ _ => id)).mono ?_; rintro e u0 ⟨rfl, hi0, hf0⟩; have P0 : Hid (Fr (fun q => q = g0) w u0) := Lib.hid ((Fr.refl (fun q => q = g0) w).drew.trans hf0 fun _ _ h => h); have I0 := Lib.hid hi0; have F1 : Hid (Fr (Vw.foot g0 g1 g2 g3) w u0) := Lib.hid (F0.out.trans P0.out fun q _ hq => Vw.f0 hq); obtain ⟨x0', y0', z0'⟩ : (u0.cell? ⟨b, j * 10 + 1, none⟩ = some (.slice k.h.occ.A k.h.occ.l.length k.h.occ.c) ∧ u0.cell? ⟨b, j * 10 + 5, none⟩ = some (.slice k.s.occ.A k.s.occ.l.length k.s.occ.c) ∧ u0.cell? ⟨vb, 0, none⟩ = some (.slice (some ⟨g0, 0, none⟩) L0.length L0.length)) := ⟨(CA.out _ F1.out).1, (CA.out _ F1.out).2.2.2.2.1, (CA.out _ F1.out).2.2.2.2.2.2.2.2.2.1⟩; clear hi0 hf0))
  rename_i hHeld0
  clear hHeld0 x0 y0 z0 x0' y0' z0' c0 K0
  go_wp2_with fail
  have a1 := CA.out _ F1.out
  have b1 := CA.out _ (F1.out.drew)
  obtain ⟨x1, y1, z1⟩ : (u0.drew.cell? ⟨b, j * 10 + 1 + 1, none⟩ = some (.slice k.h.pos.A k.h.pos.l.length k.h.pos.c) ∧ u0.drew.cell? ⟨b, j * 10 + 5 + 1, none⟩ = some (.slice k.s.pos.A k.s.pos.l.length k.s.pos.c) ∧ u0.drew.cell? ⟨vb, 1, none⟩ = some (.slice (some ⟨g1, 0, none⟩) L1.length L1.length)) := ⟨b1.2.1, b1.2.2.2.2.2.1, b1.2.2.2.2.2.2.2.2.2.2.1⟩
  have c1 : u0.drew.cell? ⟨b, j * 10 + 5 + 4, none⟩ = some (.int .i64 k.z) := b1.2.2.2.2.2.2.2.2.1
  clear a1 b1
  go_region_held3 (fun Wx => Wx.cell? ⟨b, j * 10 + 1 + 1, none⟩ = some (.slice k.h.pos.A k.h.pos.l.length k.h.pos.c) ∧ Wx.cell? ⟨b, j * 10 + 5 + 1, none⟩ = some (.slice k.s.pos.A k.s.pos.l.length k.s.pos.c) ∧ Wx.cell? ⟨vb, 1, none⟩ = some (.slice (some ⟨g1, 0, none⟩) L1.length L1.length)) (first | with_reducible exact ⟨x1, y1, z1⟩ | with_reducible exact ⟨x1', y1', z1'⟩) (first | (go_at_call 77; with_reducible refine (K1 _ c1 ((HV.out.i1.fr P0.out NE01.out).drew) ((HK0.s.off F1.out HO.out.2).pos.fr' (Fr.refl (fun _ => False) _).drew fun _ _ _ => id) ((HK0.h.off F1.out HO.out.1).pos.fr' (Fr.refl (fun _ => False) _).drew fun _ _ _ => id)).mono ?_; rintro e u1 ⟨rfl, hi1, hf1⟩; have P1 : Hid (Fr (fun q => q = g1) u0 u1) := Lib.hid ((Fr.refl (fun q => q = g1) u0).drew.trans hf1 fun _ _ h => h); have I1 := Lib.hid hi1; have F2 : Hid (Fr (Vw.foot g0 g1 g2 g3) w u1) := Lib.hid (F1.out.trans P1.out fun q _ hq => Vw.f1 hq); obtain ⟨x1', y1', z1'⟩ : (u1.cell? ⟨b, j * 10 + 1 + 1, none⟩ = some (.slice k.h.pos.A k.h.pos.l.length k.h.pos.c) ∧ u1.cell? ⟨b, j * 10 + 5 + 1, none⟩ = some (.slice k.s.pos.A k.s.pos.l.length k.s.pos.c) ∧ u1.cell? ⟨vb, 1, none⟩ = some (.slice (some ⟨g1, 0, none⟩) L1.length L1.length)) := ⟨(CA.out _ F2.out).2.1, (CA.out _ F2.out).2.2.2.2.2.1, (CA.out _ F2.out).2.2.2.2.2.2.2.2.2.2.1⟩; clear hi1 hf1))
  rename_i hHeld1
  clear hHeld1 x1 y1 z1 x1' y1' z1' c1 K1
  go_wp2_with fail
  have a2 := CA.out _ F2.out
  have b2 := CA.out _ (F2.out.drew)
  obtain ⟨x2, y2, z2⟩ : (u1.drew.cell? ⟨b, j * 10 + 1 + 2, none⟩ = some (.slice k.h.shut.A k.h.shut.l.length k.h.shut.c) ∧ u1.drew.cell? ⟨b, j * 10 + 5 + 2, none⟩ = some (.slice k.s.shut.A k.s.shut.l.length k.s.shut.c) ∧ u1.drew.cell? ⟨vb, 2, none⟩ = some (.slice (some ⟨g2, 0, none⟩) L2.length L2.length)) := ⟨b2.2.2.1, b2.2.2.2.2.2.2.1, b2.2.2.2.2.2.2.2.2.2.2.2.1⟩
  have c2 : u1.drew.cell? ⟨b, j * 10 + 5 + 4, none⟩ = some (.int .i64 k.z) := b2.2.2.2.2.2.2.2.2.1
  clear a2 b2
  go_region_held3 (fun Wx => Wx.cell? ⟨b, j * 10 + 1 + 2, none⟩ = some (.slice k.h.shut.A k.h.shut.l.length k.h.shut.c) ∧ Wx.cell? ⟨b, j * 10 + 5 + 2, none⟩ = some (.slice k.s.shut.A k.s.shut.l.length k.s.shut.c) ∧ Wx.cell? ⟨vb, 2, none⟩ = some (.slice (some ⟨g2, 0, none⟩) L2.length L2.length)) (first | with_reducible exact ⟨x2, y2, z2⟩ | with_reducible exact ⟨x2', y2', z2'⟩) (first | (go_at_call 77; with_reducible refine (K2 _ c2 (((HV.out.i2.fr P0.out NE02.out).fr P1.out NE12.out).drew) ((HK0.s.off F2.out HO.out.2).shut.fr' (Fr.refl (fun _ => False) _).drew fun _ _ _ => id) ((HK0.h.off F2.out HO.out.1).shut.fr' (Fr.refl (fun _ => False) _).drew fun _ _ _ => id)).mono ?_; rintro e u2 ⟨rfl, hi2, hf2⟩; have P2 : Hid (Fr (fun q => q = g2) u1 u2) := Lib.hid ((Fr.refl (fun q => q = g2) u1).drew.trans hf2 fun _ _ h => h); have I2 := Lib.hid hi2; have F3 : Hid (Fr (Vw.foot g0 g1 g2 g3) w u2) := Lib.hid (F2.out.trans P2.out fun q _ hq => Vw.f2 hq); obtain ⟨x2', y2', z2'⟩ : (u2.cell? ⟨b, j * 10 + 1 + 2, none⟩ = some (.slice k.h.shut.A k.h.shut.l.length k.h.shut.c) ∧ u2.cell? ⟨b, j * 10 + 5 + 2, none⟩ = some (.slice k.s.shut.A k.s.shut.l.length k.s.shut.c) ∧ u2.cell? ⟨vb, 2, none⟩ = some (.slice (some ⟨g2, 0, none⟩) L2.length L2.length)) := ⟨(CA.out _ F3.out).2.2.1, (CA.out _ F3.out).2.2.2.2.2.2.1, (CA.out _ F3.out).2.2.2.2.2.2.2.2.2.2.2.1⟩; clear hi2 hf2))
  rename_i hHeld2
  clear hHeld2 x2 y2 z2 x2' y2' z2' c2 K2
  go_wp2_with fail
  have a3 := CA.out _ F3.out
  have b3 := CA.out _ (F3.out.drew)
  obtain ⟨x3, y3, z3⟩ : (u2.drew.cell? ⟨b, j * 10 + 1 + 3, none⟩ = some (.slice k.h.lamp.A k.h.lamp.l.length k.h.lamp.c) ∧ u2.drew.cell? ⟨b, j * 10 + 5 + 3, none⟩ = some (.slice k.s.lamp.A k.s.lamp.l.length k.s.lamp.c) ∧ u2.drew.cell? ⟨vb, 3, none⟩ = some (.slice (some ⟨g3, 0, none⟩) L3.length L3.length)) := ⟨b3.2.2.2.1, b3.2.2.2.2.2.2.2.1, b3.2.2.2.2.2.2.2.2.2.2.2.2⟩
  have c3 : u2.drew.cell? ⟨b, j * 10 + 5 + 4, none⟩ = some (.int .i64 k.z) := b3.2.2.2.2.2.2.2.2.1
  clear a3 b3
  go_region_held3 (fun Wx => Wx.cell? ⟨b, j * 10 + 1 + 3, none⟩ = some (.slice k.h.lamp.A k.h.lamp.l.length k.h.lamp.c) ∧ Wx.cell? ⟨b, j * 10 + 5 + 3, none⟩ = some (.slice k.s.lamp.A k.s.lamp.l.length k.s.lamp.c) ∧ Wx.cell? ⟨vb, 3, none⟩ = some (.slice (some ⟨g3, 0, none⟩) L3.length L3.length)) (first | with_reducible exact ⟨x3, y3, z3⟩ | with_reducible exact ⟨x3', y3', z3'⟩) (first | (go_at_call 77; with_reducible refine (K3 _ c3 ((((HV.out.i3.fr P0.out NE03.out).fr P1.out NE13.out).fr P2.out NE23.out).drew) ((HK0.s.off F3.out HO.out.2).lamp.fr' (Fr.refl (fun _ => False) _).drew fun _ _ _ => id) ((HK0.h.off F3.out HO.out.1).lamp.fr' (Fr.refl (fun _ => False) _).drew fun _ _ _ => id)).mono ?_; rintro e u3 ⟨rfl, hi3, hf3⟩; have P3 : Hid (Fr (fun q => q = g3) u2 u3) := Lib.hid ((Fr.refl (fun q => q = g3) u2).drew.trans hf3 fun _ _ h => h); have I3 := Lib.hid hi3; have F4 : Hid (Fr (Vw.foot g0 g1 g2 g3) w u3) := Lib.hid (F3.out.trans P3.out fun q _ hq => Vw.f3 hq); obtain ⟨x3', y3', z3'⟩ : (u3.cell? ⟨b, j * 10 + 1 + 3, none⟩ = some (.slice k.h.lamp.A k.h.lamp.l.length k.h.lamp.c) ∧ u3.cell? ⟨b, j * 10 + 5 + 3, none⟩ = some (.slice k.s.lamp.A k.s.lamp.l.length k.s.lamp.c) ∧ u3.cell? ⟨vb, 3, none⟩ = some (.slice (some ⟨g3, 0, none⟩) L3.length L3.length)) := ⟨(CA.out _ F4.out).2.2.2.1, (CA.out _ F4.out).2.2.2.2.2.2.2.1, (CA.out _ F4.out).2.2.2.2.2.2.2.2.2.2.2.2⟩; clear hi3 hf3))
  rename_i hHeld3
  clear hHeld3 x3 y3 z3 x3' y3' z3' c3 K3
  go_wp2_with fail
  go_end0
  have iv := HV.out.is.fr F4.out fun q => HVN.out _ q rfl
  exact ⟨rfl, ⟨by simp only [putL_length]; exact iv, (((I0.out.fr P1.out HV.out.n01).fr P2.out HV.out.n02).fr P3.out HV.out.n03), ((I1.out.fr P2.out HV.out.n12).fr P3.out HV.out.n13), (I2.out.fr P3.out HV.out.n23), I3.out, HV.out.n01, HV.out.n02, HV.out.n03, HV.out.n12, HV.out.n13, HV.out.n23⟩, F4.out⟩
end Go.Proofs.Ytfmhfngilimhjaa.Im

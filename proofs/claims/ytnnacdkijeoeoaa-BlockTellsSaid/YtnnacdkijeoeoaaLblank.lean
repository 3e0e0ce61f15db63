/- The contract of the program's blank: a state in which all is Free and Idle. -/
import Derived.Test.YtnnacdkijeoeoaaLsta
import Derived.Test.YtnnacdkijeoeoaaMl
import Derived.Test.YtnnacdkijeoeoaaKb
import Derived.Deep.Cut
import Derived.Deep.CutRange
namespace Go.Proofs.Ytnnacdkijeoeoaa.Lk
open Go.RowKit

theorem own_of_is {w : World} {b B n size : Nat} {e : TypeId} {xs : List Value} (h : Is w b e xs.toArray) (hb : B ≤ b) (hl : xs.length = n * size) (hn : n ≤ maxLen) : w.ownsRow B e size (.slice (some ⟨b, 0, none⟩) n n) n xs :=
  ⟨hl, .inr ⟨b, n, xs.toArray, rfl, hb, h, Nat.le_refl _, hn, by simp [hl], by rw [← hl]; simp⟩⟩
theorem rep_flat {α : Type} (g : α → List Value) (a : α) (v : Value) (k : Nat) (hg : g a = List.replicate k v) : ∀ n : Nat, (List.replicate n a).flatMap g = List.replicate (n * k) v
  | 0 => by simp
  | n + 1 => by
    rw [List.replicate_succ, List.flatMap_cons, rep_flat g a v k hg n, hg, List.replicate_append_replicate]
    congr 1
    rw [Nat.succ_mul]; omega
theorem made_rep (v : Value) (k n : Nat) (hk : 0 < k) : madeCells (List.replicate k v).toArray (n * k) = (List.replicate (n * k) v).toArray := by
  apply Array.ext
  · simp [madeCells]
  · intro i h1 h2
    have : i % k < k := Nat.mod_lt _ hk
    simp [madeCells, this]
theorem Try.infoI9 : (Try.prog.info? 3).map (fun i => (i.zero, i.size, i.bytes)) = some (some (.int .i64 0), 1, 8) := by kernel_rfl
theorem mk_int (n : Nat) (hn : n * 8 ≤ 281474976710656) (W : World) : (Instr.makeSlice 25 (.int .i64 (n : Int)) (.int .i64 (n : Int))).run Try.prog W = .ok (.slice (some ⟨W.heap.size, 0, none⟩) n n) (W.alloc (.cells (List.replicate (n * 1) (Value.int .i64 0)).toArray 3)) := by
  obtain ⟨i0, hi, hz0, hz1, hz2⟩ := info_parts Try.infoI9
  have h := run_make (P := Try.prog) W 25 3 i0 (.int .i64 0) Try.underlying25 hi hz0 .i64 .i64 n n (by omega) (by omega) (by rw [hz2]; omega) (by omega)
  rw [hz1] at h
  simp only [Int.toNat_natCast] at h
  have e : madeCells (Value.cells (.int .i64 0)) (n * 1) = (List.replicate (n * 1) (Value.int .i64 0)).toArray := made_rep (Value.int .i64 0) 1 n (by decide)
  rw [h, e]
theorem mk_rs (n : Nat) (hn : n * 32 ≤ 281474976710656) (W : World) : (Instr.makeSlice 31 (.int .i64 (n : Int)) (.int .i64 (n : Int))).run Try.prog W = .ok (.slice (some ⟨W.heap.size, 0, none⟩) n n) (W.alloc (.cells (List.replicate (n * 4) (Value.int .i64 0)).toArray 87)) := by
  obtain ⟨i0, hi, hz0, hz1, hz2⟩ := info_parts Try.infoRs
  have h := run_make (P := Try.prog) W 31 87 i0 (.agg #[.int .i64 0, .int .i64 0, .int .i64 0, .int .i64 0]) Try.underlying31 hi hz0 .i64 .i64 n n (by omega) (by omega) (by rw [hz2]; omega) (by omega)
  rw [hz1] at h
  simp only [Int.toNat_natCast] at h
  have e : madeCells (Value.cells (.agg #[.int .i64 0, .int .i64 0, .int .i64 0, .int .i64 0])) (n * 4) = (List.replicate (n * 4) (Value.int .i64 0)).toArray := made_rep (Value.int .i64 0) 4 n (by decide)
  rw [h, e]
theorem mk_mo (n : Nat) (hn : n * 16 ≤ 281474976710656) (W : World) : (Instr.makeSlice 32 (.int .i64 (n : Int)) (.int .i64 (n : Int))).run Try.prog W = .ok (.slice (some ⟨W.heap.size, 0, none⟩) n n) (W.alloc (.cells (List.replicate (n * 2) (Value.int .i64 0)).toArray 89)) := by
  obtain ⟨i0, hi, hz0, hz1, hz2⟩ := info_parts Try.infoMo
  have h := run_make (P := Try.prog) W 32 89 i0 (.agg #[.int .i64 0, .int .i64 0]) Try.underlying32 hi hz0 .i64 .i64 n n (by omega) (by omega) (by rw [hz2]; omega) (by omega)
  rw [hz1] at h
  simp only [Int.toNat_natCast] at h
  have e : madeCells (Value.cells (.agg #[.int .i64 0, .int .i64 0])) (n * 2) = (List.replicate (n * 2) (Value.int .i64 0)).toArray := made_rep (Value.int .i64 0) 2 n (by decide)
  rw [h, e]
theorem mk_ln (n : Nat) (hn : n * 64 ≤ 281474976710656) (W : World) : (Instr.makeSlice 33 (.int .i64 (n : Int)) (.int .i64 (n : Int))).run Try.prog W = .ok (.slice (some ⟨W.heap.size, 0, none⟩) n n) (W.alloc (.cells (List.replicate (n * 8) (Value.int .i64 0)).toArray 49)) := by
  obtain ⟨i0, hi, hz0, hz1, hz2⟩ := info_parts Try.infoLn
  have h := run_make (P := Try.prog) W 33 49 i0 (.agg #[.int .i64 0, .int .i64 0, .int .i64 0, .int .i64 0, .int .i64 0, .int .i64 0, .int .i64 0, .int .i64 0]) Try.underlying33 hi hz0 .i64 .i64 n n (by omega) (by omega) (by rw [hz2]; omega) (by omega)
  rw [hz1] at h
  simp only [Int.toNat_natCast] at h
  have e : madeCells (Value.cells (.agg #[.int .i64 0, .int .i64 0, .int .i64 0, .int .i64 0, .int .i64 0, .int .i64 0, .int .i64 0, .int .i64 0])) (n * 8) = (List.replicate (n * 8) (Value.int .i64 0)).toArray := made_rep (Value.int .i64 0) 8 n (by decide)
  rw [h, e]
def footS (_ : Nat) (v : Value) (b : Nat) : Prop := ∃ n, v = .slice (some ⟨b, 0, none⟩) n n
theorem foot_made {z n : Nat} {t : TypeId} {cs : Array Value} {v : Value} {w : World} {k q : Nat} (h : (Sp.made z t n cs).p v w) (hq : footS k v q) : q < w.heap.size := by
  obtain ⟨b, e, i, _⟩ := h
  obtain ⟨m, e2⟩ := hq
  rw [e] at e2
  injection e2 with e2
  injection e2 with e2
  injection e2 with e2
  exact e2 ▸ i.lt
theorem foot_new {k q n z : Nat} (h : footS k (.slice (some ⟨z, 0, none⟩) n n) q) : z ≤ q := by
  obtain ⟨m, e2⟩ := h
  injection e2 with e2
  injection e2 with e2
  injection e2 with e2
  omega
theorem no_foot {M : List (Nat × Nat)} {foot : Nat → Value → Nat → Prop} {i : Nat} {v : Value} {w : World} (h : (M.all fun p => p.1 != i) = true) : ∀ p ∈ M, p.1 = i → ∀ b, foot p.2 v b → w.heap.size ≤ b := fun p hp e => by
  rw [List.all_eq_true] at h
  have := h p hp
  simp [e] at this
def agg6d (z n nr nx : Nat) : Sp := ⟨fun v w => ∃ b1 b2 b3 b4 b5 b6, v = .agg #[.slice (some ⟨b1, 0, none⟩) n n, .slice (some ⟨b2, 0, none⟩) nr nr, .slice (some ⟨b3, 0, none⟩) n n, .slice (some ⟨b4, 0, none⟩) nx nx, .slice (some ⟨b5, 0, none⟩) 4 4, .slice (some ⟨b6, 0, none⟩) n n, .bool false] ∧ (Is w b1 3 (List.replicate (n * 1) (Value.int .i64 0)).toArray ∧ z ≤ b1) ∧ (Is w b2 87 (List.replicate (nr * 4) (Value.int .i64 0)).toArray ∧ z ≤ b2) ∧ (Is w b3 89 (List.replicate (n * 2) (Value.int .i64 0)).toArray ∧ z ≤ b3) ∧ (Is w b4 89 (List.replicate (nx * 2) (Value.int .i64 0)).toArray ∧ z ≤ b4) ∧ (Is w b5 49 (List.replicate 32 (Value.int .i64 0)).toArray ∧ z ≤ b5) ∧ (Is w b6 3 (List.replicate (n * 1) (Value.int .i64 0)).toArray ∧ z ≤ b6) ∧ b1 ≠ b6 ∧ b3 ≠ b4,
  fun _ _ _ ⟨b1, b2, b3, b4, b5, b6, e, h1, h2, h3, h4, h5, h6, n1, n2⟩ f => ⟨b1, b2, b3, b4, b5, b6, e, ⟨h1.1.fr f id, h1.2⟩, ⟨h2.1.fr f id, h2.2⟩, ⟨h3.1.fr f id, h3.2⟩, ⟨h4.1.fr f id, h4.2⟩, ⟨h5.1.fr f id, h5.2⟩, ⟨h6.1.fr f id, h6.2⟩, n1, n2⟩⟩

/-- a state in which all is Free and Idle -/
def blankM (c : Cf) (now : Int) : Kp := ⟨c.secs.map fun _ => 0, c.rts.map fun _ => ⟨0, 0, 0, 0⟩, c.secs.map fun s => ⟨0, if s.kind = 1 then now else 0⟩, c.crs.map fun _ => ⟨1, now⟩, List.replicate 4 default, c.secs.map fun _ => 0, false⟩
/-- a state behind its address, whose lists are the call's own -/
structure Bx (w0 w : World) (kb : Nat) (K : Km) : Prop where
  is : Is w kb 35 K.arr
  own : K.Own w0.heap.size w
  f : Fr (fun _ => False) w0 w
  hb : w0.heap.size ≤ kb
theorem Bx.fr {w0 w w1 : World} {kb : Nat} {K : Km} (h : Bx w0 w kb K) (f : Fr (fun _ => False) w w1) : Bx w0 w1 kb K := ⟨h.is.fr f id, h.own.fr f fun _ _ => id, h.f.trans f fun _ _ e => e, h.hb⟩
theorem Bx.no {w0 w : World} {kb : Nat} {K : Km} (h : Bx w0 w kb K) : ¬ K.at kb := h.own.ne_is h.is (by decide) (by decide) (by decide) (by decide)
theorem Bx.point {w0 w : World} {kb : Nat} {K : Km} (h : Bx w0 w kb K) {j g : Nat} (hj : j < K.pts.length) (hA : K.A3 = some ⟨g, 0, none⟩) (x : Mo) :
    Bx w0 ((w.setCell ⟨g, j * 2, none⟩ (.int .i64 x.cmd)).setCell ⟨g, j * 2 + 1, none⟩ (.int .i64 x.oth)) kb { K with pts := K.pts.set j x } := by
  have hk : K.at g := .inr (.inr (.inl (by rw [hA]; rfl)))
  have hg := (h.own.lt g hk).1
  have hne : ¬ kb = g := fun e => h.no (e ▸ hk)
  refine ⟨?_, own_point h.own hj hA x, ((h.f.setCell (p := ⟨g, j * 2, none⟩) (.inr hg) _).setCell (p := ⟨g, j * 2 + 1, none⟩) (.inr hg) _), h.hb⟩
  have := (h.is.far (p := ⟨g, j * 2, none⟩) hne (.int .i64 x.cmd)).far (p := ⟨g, j * 2 + 1, none⟩) hne (.int .i64 x.oth)
  unfold Km.arr at this ⊢
  simpa only [List.length_set] using this
theorem Bx.cross {w0 w : World} {kb : Nat} {K : Km} (h : Bx w0 w kb K) {j g : Nat} (hj : j < K.crs.length) (hA : K.A4 = some ⟨g, 0, none⟩) (x : Mo) :
    Bx w0 ((w.setCell ⟨g, j * 2, none⟩ (.int .i64 x.cmd)).setCell ⟨g, j * 2 + 1, none⟩ (.int .i64 x.oth)) kb { K with crs := K.crs.set j x } := by
  have hk : K.at g := .inr (.inr (.inr (.inl (by rw [hA]; rfl))))
  have hg := (h.own.lt g hk).1
  have hne : ¬ kb = g := fun e => h.no (e ▸ hk)
  refine ⟨?_, own_cross h.own hj hA x, ((h.f.setCell (p := ⟨g, j * 2, none⟩) (.inr hg) _).setCell (p := ⟨g, j * 2 + 1, none⟩) (.inr hg) _), h.hb⟩
  have := (h.is.far (p := ⟨g, j * 2, none⟩) hne (.int .i64 x.cmd)).far (p := ⟨g, j * 2 + 1, none⟩) hne (.int .i64 x.oth)
  unfold Km.arr at this ⊢
  simpa only [List.length_set] using this
theorem Bx.owner {w0 w : World} {kb : Nat} {K : Km} (h : Bx w0 w kb K) {j g : Nat} (hj : j < K.own.length) (hA : K.A1 = some ⟨g, 0, none⟩) (x : Int) : Bx w0 (w.setCell ⟨g, j, none⟩ (.int .i64 x)) kb { K with own := K.own.set j x } := by
  have hk : K.at g := .inl (by rw [hA]; rfl)
  have hg := (h.own.lt g hk).1
  have hne : ¬ kb = g := fun e => h.no (e ▸ hk)
  obtain ⟨g0, e0, _, _, _, _, h0⟩ := h.own.set1 hj x
  have f0 : g0 = g := by rw [hA] at e0; injection e0 with e; injection e with e; exact e.symm
  subst f0
  refine ⟨?_, h0, h.f.setCell (p := ⟨g0, j, none⟩) (.inr hg) _, h.hb⟩
  have := h.is.far (p := ⟨g0, j, none⟩) hne (.int .i64 x)
  unfold Km.arr at this ⊢
  simpa only [List.length_set] using this
theorem Bx.dirt {w0 w : World} {kb : Nat} {K : Km} (h : Bx w0 w kb K) (b : Bool) : Bx w0 (w.setCell ⟨kb, 6, none⟩ (.bool b)) kb { K with dirty := b } := by
  have o := h.own.fr ((Fr.refl (fun k => k = kb) w).setCell (p := ⟨kb, 6, none⟩) (.inl rfl) (.bool b)) (fun k hk e => h.no (e ▸ hk))
  exact ⟨h.is.set 6 (.bool b), ⟨o.own, o.rts, o.pts, o.crs, o.lns, o.rss, o.d16, o.d34⟩, h.f.setCell (p := ⟨kb, 6, none⟩) (.inr h.hb) _, h.hb⟩


/-- a row that is filled from its beginning on -/
def fillP {α β : Type} (f : α → β) (z : β) (l : List α) (k : Nat) : List β := (l.take k).map f ++ List.replicate (l.length - k) z
theorem fillP_len {α β : Type} (f : α → β) (z : β) (l : List α) (k : Nat) (hk : k ≤ l.length) : (fillP f z l k).length = l.length := by unfold fillP; simp; omega
theorem fillP_zero {α β : Type} (f : α → β) (z : β) (l : List α) : fillP f z l 0 = List.replicate l.length z := by unfold fillP; simp
theorem fillP_all {α β : Type} (f : α → β) (z : β) (l : List α) (k : Nat) (hk : l.length ≤ k) : fillP f z l k = l.map f := by unfold fillP; rw [List.take_of_length_le hk, show l.length - k = 0 by omega]; simp
theorem fillP_set {α β : Type} (f : α → β) (z : β) (l : List α) (k : Nat) (hk : k < l.length) : (fillP f z l k).set k (f l[k]) = fillP f z l (k + 1) := by
  unfold fillP
  have e : l.length - k = (l.length - (k + 1)) + 1 := by omega
  rw [e, List.replicate_succ, List.take_succ_eq_append_getElem hk, List.map_append, List.append_assoc, List.set_append_right _ _ (show ((l.take k).map f).length ≤ k by simp; omega)]
  have e2 : k - ((l.take k).map f).length = 0 := by simp; omega
  rw [e2]
  rfl
theorem fillP_get? {α β : Type} (f : α → β) (z : β) (l : List α) (k : Nat) (hk : k < l.length) : (fillP f z l k)[k]? = some z := by
  unfold fillP
  rw [List.getElem?_append_right (by simp; omega), List.getElem?_replicate]
  simp
  omega
theorem fillP_same {α β : Type} (f : α → β) (z : β) (l : List α) (k : Nat) (hk : k < l.length) (h : f l[k] = z) : fillP f z l (k + 1) = fillP f z l k := by
  rw [← fillP_set f z l k hk, h]
  have := fillP_get? f z l k hk
  apply List.ext_getElem?
  intro i
  rw [List.getElem?_set]
  by_cases hi : k = i
  · subst hi
    rw [if_pos rfl, this, if_pos (by rw [fillP_len f z l k (by omega)]; exact hk)]
  · rw [if_neg hi]
def stM (now : Int) (s : Sec) : Mo := ⟨0, if s.kind = 1 then now else 0⟩
theorem bx_point3 {w0 v : World} {kb g j : Nat} {K : Km} {l : List Sec} {now : Int} (h : Bx w0 v kb { K with pts := fillP (stM now) ⟨0, 0⟩ l j }) (hp : ∃ h : j < l.length, (l[j]'h).kind = 1) (hB : K.A3 = some ⟨g, 0, none⟩) (hj : j < l.length) (n : Int) (hn : n = now := by rfl) :
    Hid (Bx w0 ((v.setCell ⟨g, j * 2, none⟩ (.int .i64 0)).setCell ⟨g, j * 2 + 1, none⟩ (.int .i64 n)) kb { K with pts := fillP (stM now) ⟨0, 0⟩ l (j + 1) }) ∧ Hid (((v.setCell ⟨g, j * 2, none⟩ (.int .i64 0)).setCell ⟨g, j * 2 + 1, none⟩ (.int .i64 n)).cell? ⟨kb, 2, none⟩ = some (.slice (some ⟨g, 0, none⟩) l.length K.c3)) ∧
      ∃ u1 u2, v.cell? ⟨g, j * 2, none⟩ = some u1 ∧ v.cell? ⟨g, j * 2 + 1, none⟩ = some u2 ∧ v.frozen? ⟨g, j * 2, none⟩ = false ∧ v.frozen? ⟨g, j * 2 + 1, none⟩ = false := by
  subst hn
  obtain ⟨_, hk⟩ := hp
  have hlen := fillP_len (stM n) ⟨0, 0⟩ l j (by omega)
  have b := h.point (K := { K with pts := fillP (stM n) ⟨0, 0⟩ l j }) (by show j < (fillP _ _ _ _).length; omega) hB (stM n l[j])
  have e : stM n l[j] = ⟨0, n⟩ := by unfold stM; rw [if_pos hk]
  have b' : Bx w0 ((v.setCell ⟨g, j * 2, none⟩ (.int .i64 0)).setCell ⟨g, j * 2 + 1, none⟩ (.int .i64 n)) kb { K with pts := fillP (stM n) ⟨0, 0⟩ l (j + 1) } := by
    rw [← fillP_set (stM n) ⟨0, 0⟩ l j hj]
    rw [e] at b ⊢
    exact b
  refine ⟨Lib.hid b', Lib.hid ?_, ?_⟩
  · have c := b'.is.cell 2
    have hl2 := fillP_len (stM n) ⟨0, 0⟩ l (j + 1) (by omega)
    simpa [Km.arr, hB, hl2] using c
  · have o := h.own.pts
    have hl : 0 < (fillP (stM n) ⟨0, 0⟩ l j).length := by omega
    have o' : v.ownsRow w0.heap.size 89 2 (.slice (some ⟨g, 0, none⟩) (fillP (stM n) ⟨0, 0⟩ l j).length K.c3) (fillP (stM n) ⟨0, 0⟩ l j).length ((fillP (stM n) ⟨0, 0⟩ l j).flatMap cMo) := by
      have o2 : v.ownsRow w0.heap.size 89 2 (.slice K.A3 (fillP (stM n) ⟨0, 0⟩ l j).length K.c3) (fillP (stM n) ⟨0, 0⟩ l j).length ((fillP (stM n) ⟨0, 0⟩ l j).flatMap cMo) := o
      rw [hB] at o2; exact o2
    obtain ⟨g', o9, e9, c0, c1⟩ := rd_mo (wide_rd o') (j := j) (by omega)
    injection e9 with e9
    injection e9 with e1 e2
    subst e1 e2
    simp only [Nat.zero_add] at c0 c1
    exact ⟨_, _, c0, c1, o'.frozenAt _, o'.frozenAt _⟩
def crM (now : Int) (_ : Int) : Mo := ⟨1, now⟩
theorem bx_cross3 {w0 v : World} {kb g j : Nat} {K : Km} {l : List Int} {now : Int} {p : List Mo} (h : Bx w0 v kb { K with pts := p, crs := fillP (crM now) ⟨0, 0⟩ l j }) (_ : True) (hB : K.A4 = some ⟨g, 0, none⟩) (hj : j < l.length) (n : Int) (hn : n = now := by rfl) :
    Hid (Bx w0 ((v.setCell ⟨g, j * 2, none⟩ (.int .i64 1)).setCell ⟨g, j * 2 + 1, none⟩ (.int .i64 n)) kb { K with pts := p, crs := fillP (crM now) ⟨0, 0⟩ l (j + 1) }) ∧ Hid (((v.setCell ⟨g, j * 2, none⟩ (.int .i64 1)).setCell ⟨g, j * 2 + 1, none⟩ (.int .i64 n)).cell? ⟨kb, 3, none⟩ = some (.slice (some ⟨g, 0, none⟩) l.length K.c4)) ∧
      ∃ u1 u2, v.cell? ⟨g, j * 2, none⟩ = some u1 ∧ v.cell? ⟨g, j * 2 + 1, none⟩ = some u2 ∧ v.frozen? ⟨g, j * 2, none⟩ = false ∧ v.frozen? ⟨g, j * 2 + 1, none⟩ = false := by
  subst hn
  have hlen := fillP_len (crM n) ⟨0, 0⟩ l j (by omega)
  have b := h.cross (K := { K with pts := p, crs := fillP (crM n) ⟨0, 0⟩ l j }) (by show j < (fillP _ _ _ _).length; omega) hB (crM n l[j])
  have b' : Bx w0 ((v.setCell ⟨g, j * 2, none⟩ (.int .i64 1)).setCell ⟨g, j * 2 + 1, none⟩ (.int .i64 n)) kb { K with pts := p, crs := fillP (crM n) ⟨0, 0⟩ l (j + 1) } := by
    rw [← fillP_set (crM n) ⟨0, 0⟩ l j hj]
    exact b
  refine ⟨Lib.hid b', Lib.hid ?_, ?_⟩
  · have c := b'.is.cell 3
    have hl2 := fillP_len (crM n) ⟨0, 0⟩ l (j + 1) (by omega)
    simpa [Km.arr, hB, hl2] using c
  · have o' : v.ownsRow w0.heap.size 89 2 (.slice (some ⟨g, 0, none⟩) (fillP (crM n) ⟨0, 0⟩ l j).length K.c4) (fillP (crM n) ⟨0, 0⟩ l j).length ((fillP (crM n) ⟨0, 0⟩ l j).flatMap cMo) := by
      have o2 : v.ownsRow w0.heap.size 89 2 (.slice K.A4 (fillP (crM n) ⟨0, 0⟩ l j).length K.c4) (fillP (crM n) ⟨0, 0⟩ l j).length ((fillP (crM n) ⟨0, 0⟩ l j).flatMap cMo) := h.own.crs
      rw [hB] at o2; exact o2
    obtain ⟨g', o9, e9, c0, c1⟩ := rd_mo (wide_rd o') (j := j) (by omega)
    injection e9 with e9
    injection e9 with e1 e2
    subst e1 e2
    simp only [Nat.zero_add] at c0 c1
    exact ⟨_, _, c0, c1, o'.frozenAt _, o'.frozenAt _⟩
theorem bx_cell2 {w0 v : World} {kb g j : Nat} {K : Km} {l : List Sec} {now : Int} (h : Bx w0 v kb { K with pts := fillP (stM now) ⟨0, 0⟩ l j }) (hj : j ≤ l.length) (hB : K.A3 = some ⟨g, 0, none⟩) : v.cell? ⟨kb, 2, none⟩ = some (.slice (some ⟨g, 0, none⟩) l.length K.c3) := by
  have c := h.is.cell 2
  have hl2 := fillP_len (stM now) ⟨0, 0⟩ l j hj
  simpa [Km.arr, hB, hl2] using c
theorem bx_cell3 {w0 v : World} {kb g j : Nat} {K : Km} {l : List Int} {now : Int} {p : List Mo} (h : Bx w0 v kb { K with pts := p, crs := fillP (crM now) ⟨0, 0⟩ l j }) (hj : j ≤ l.length) (hB : K.A4 = some ⟨g, 0, none⟩) : v.cell? ⟨kb, 3, none⟩ = some (.slice (some ⟨g, 0, none⟩) l.length K.c4) := by
  have c := h.is.cell 3
  have hl2 := fillP_len (crM now) ⟨0, 0⟩ l j hj
  simpa [Km.arr, hB, hl2] using c
set_option maxHeartbeats 8000000 in
set_option maxRecDepth 100000 in
theorem blank_any {C : Cm} (w : World) (hC : C.Ok w) (hcr : C.cr.length * 16 ≤ 140737488351232) (now : Int) :
    Calls Try.prog 32 #[C.val, .int .i64 now] w (Back w (blankM C.cf now)) := by
  have HC := Lib.hid hC
  have hsz : Hid (C.l.length * 24 ≤ 140737488351232 ∧ C.rs.length * 96 ≤ 140737488351232 ∧ C.cr.length * 16 ≤ 140737488351232) := Lib.hid ⟨hC.b1, hC.b5, hcr⟩
  have HF0 := Lib.hid (((Fr.refl (fun _ => False) w).alloc (.cells C.arr 30)).alloc (.cells #[.slice none 0 0, .slice none 0 0, .slice none 0 0, .slice none 0 0, .slice none 0 0, .slice none 0 0, .bool false] 35))
  have HIC := Lib.hid ((Is.new w 30 C.arr).alloc (.cells #[.slice none 0 0, .slice none 0 0, .slice none 0 0, .slice none 0 0, .slice none 0 0, .slice none 0 0, .bool false] 35))
  have HIR := Lib.hid (Is.new (w.alloc (.cells C.arr 30)) 35 #[.slice none 0 0, .slice none 0 0, .slice none 0 0, .slice none 0 0, .slice none 0 0, .slice none 0 0, .bool false])
  rw [show (w.alloc (.cells C.arr 30)).heap.size = w.heap.size + 1 by simp] at HIR
  have hz1 : ((w.alloc (.cells C.arr 30)).alloc (.cells #[.slice none 0 0, .slice none 0 0, .slice none 0 0, .slice none 0 0, .slice none 0 0, .slice none 0 0, .bool false] 35)).heap.size = w.heap.size + 2 := by simp
  clear hC hcr
  unfold Cm.val Cm.arr at *
  go_enter Try.func32, Try.ntmps32
  go_upto_region 1 with (fail)
  generalize ((w.alloc _).alloc _) = w1 at *
  have HC4 : Hid (∀ W, Fr (fun _ => False) w1.drew W → Is W w.heap.size 30 _) := Lib.hid fun W f => ((HIC.out.fr (Fr.refl (fun _ => False) w1).drew id).fr f id)
  obtain ⟨z0, hz⟩ : ∃ z0, z0 = w1.drew.heap.size := ⟨_, rfl⟩
  have hz0 : w.heap.size + 2 ≤ z0 := by rw [hz]; exact Nat.le_of_eq hz1.symm
  have HZ0 := Lib.hid hz0
  have HN1 : Hid (w.heap.size + 2 ≤ w1.heap.size) := Lib.hid (Nat.le_of_eq hz1.symm)
  clear hz1 hz0
  go_cut [5] from 9 (fun v5 wx => ∃ (kb : Nat) (K : Km), v5 = .pointer (some ⟨kb, 0, none⟩) ∧ K.kp = ⟨List.replicate C.l.length 0, List.replicate C.rs.length ⟨0, 0, 0, 0⟩, List.replicate C.l.length ⟨0, 0⟩, List.replicate C.cr.length ⟨0, 0⟩, List.replicate 4 default, List.replicate C.l.length 0, false⟩ ∧ Bx w1 wx kb K ∧ (0 < C.l.length → ∃ g, K.A3 = some ⟨g, 0, none⟩) ∧ (0 < C.cr.length → ∃ g, K.A4 = some ⟨g, 0, none⟩))
  case first =>
    refine region_lateD 23 [9, 10, 11, 12, 13, 14, 15, 16, 17, 18, 19, 20, 21, 22, 23, 24, 25, 26, 27, 28, 29, 30, 5] [(9, .val (.pointer (some ⟨w.heap.size, 0, none⟩))), (10, .val (.slice C.A1 C.l.length C.c1)), (11, .val (.int .i64 (C.l.length : Nat))), (12, .made z0 3 C.l.length (List.replicate (C.l.length * 1) (Value.int .i64 0)).toArray), (13, .val (.pointer (some ⟨w.heap.size, 4, none⟩))), (14, .val (.slice C.A5 C.rs.length C.c5)), (15, .val (.int .i64 (C.rs.length : Nat))), (16, .made z0 87 C.rs.length (List.replicate (C.rs.length * 4) (Value.int .i64 0)).toArray), (17, .val (.pointer (some ⟨w.heap.size, 0, none⟩))), (18, .val (.slice C.A1 C.l.length C.c1)), (19, .val (.int .i64 (C.l.length : Nat))), (20, .made z0 89 C.l.length (List.replicate (C.l.length * 2) (Value.int .i64 0)).toArray), (21, .val (.pointer (some ⟨w.heap.size, 3, none⟩))), (22, .val (.slice C.A4 C.cr.length C.c4)), (23, .val (.int .i64 (C.cr.length : Nat))), (24, .made z0 89 C.cr.length (List.replicate (C.cr.length * 2) (Value.int .i64 0)).toArray), (25, .made z0 49 4 (List.replicate 32 (Value.int .i64 0)).toArray), (26, .val (.pointer (some ⟨w.heap.size, 0, none⟩))), (27, .val (.slice C.A1 C.l.length C.c1)), (28, .val (.int .i64 (C.l.length : Nat))), (29, .made z0 3 C.l.length (List.replicate (C.l.length * 1) (Value.int .i64 0)).toArray), (30, agg6d z0 C.l.length C.rs.length C.cr.length), (5, .box z0 35 #[.slice none 0 0, .slice none 0 0, .slice none 0 0, .slice none 0 0, .slice none 0 0, .slice none 0 0, .bool false])] [(3, 12), (11, 20), (15, 24), (20, 29)] footS (by kernel_rfl) (by kernel_rfl) (by kernel_rfl) (fun p hp v w' h q hq => ?_) (by kernel_rfl) (by kernel_rfl) (by kernel_rfl) (by decide) (by kernel_rfl) (by kernel_rfl) (by kernel_rfl) ?_ ?_
    · simp only [List.mem_cons, List.not_mem_nil, or_false] at hp
      rcases hp with rfl | rfl | rfl | rfl <;> exact foot_made h hq
    · intro i o ho him
      have hcase : i = 0 ∨ i = 1 ∨ i = 2 ∨ i = 3 ∨ i = 4 ∨ i = 5 ∨ i = 6 ∨ i = 7 ∨ i = 8 ∨ i = 9 ∨ i = 10 ∨ i = 11 ∨ i = 12 ∨ i = 13 ∨ i = 14 ∨ i = 15 ∨ i = 16 ∨ i = 17 ∨ i = 18 ∨ i = 19 ∨ i = 20 ∨ i = 21 ∨ i = 22 := by omega
      clear him
      rcases hcase with rfl | rfl | rfl | rfl | rfl | rfl | rfl | rfl | rfl | rfl | rfl | rfl | rfl | rfl | rfl | rfl | rfl | rfl | rfl | rfl | rfl | rfl | rfl <;> (injection ho with ho; subst ho; intro listed a' w' hrd hf hdis hl)
      · have e7 : a'.eval (.tmp 2) = .pointer (some ⟨w.heap.size, 0, none⟩) := hl 2 (by decide)
        refine l_of rfl (v := .pointer (some ⟨w.heap.size, 0, none⟩)) (w' := w') (by clear hl hdis; revert e7; generalize a'.eval = ev; intro e7; go_simp) (putD (Fr.refl _ _) (no_foot (by decide)) rfl)
      · have e7 : a'.eval (.tmp 9) = .pointer (some ⟨w.heap.size, 0, none⟩) := hl 9 (by decide)
        have c : w'.cell? ⟨w.heap.size, 0, none⟩ = some (.slice C.A1 C.l.length C.c1) := (HC4.out w' hf).cell 0
        refine l_of rfl (v := .slice C.A1 C.l.length C.c1) (w' := w') (by clear hl hdis; revert e7; generalize a'.eval = ev; intro e7; go_simp) (putD (Fr.refl _ _) (no_foot (by decide)) rfl)
      · have e7 : a'.eval (.tmp 10) = .slice C.A1 C.l.length C.c1 := hl 10 (by decide)
        refine l_of rfl (v := .int .i64 (C.l.length : Nat)) (w' := w') (by clear hl hdis; revert e7; generalize a'.eval = ev; intro e7; go_simp) (putD (Fr.refl _ _) (no_foot (by decide)) rfl)
      · have e7 : a'.eval (.tmp 11) = .int .i64 (C.l.length : Nat) := hl 11 (by decide)
        have hmk := mk_int C.l.length (by have := hsz.out; omega) w'
        refine l_of rfl (v := .slice (some ⟨w'.heap.size, 0, none⟩) C.l.length C.l.length) (w' := w'.alloc (.cells (List.replicate (C.l.length * 1) (Value.int .i64 0)).toArray 3)) (by clear hl hdis; revert e7; generalize a'.eval = ev; intro e7; go_simp) (putD ((Fr.refl _ _).alloc _) (fun _ _ _ q hq => foot_new hq) ⟨_, rfl, Is.new _ _ _, (hz ▸ hf.size)⟩)
      · have e7 : a'.eval (.tmp 2) = .pointer (some ⟨w.heap.size, 0, none⟩) := hl 2 (by decide)
        refine l_of rfl (v := .pointer (some ⟨w.heap.size, 4, none⟩)) (w' := w') (by clear hl hdis; revert e7; generalize a'.eval = ev; intro e7; go_simp) (putD (Fr.refl _ _) (no_foot (by decide)) rfl)
      · have e7 : a'.eval (.tmp 13) = .pointer (some ⟨w.heap.size, 4, none⟩) := hl 13 (by decide)
        have c : w'.cell? ⟨w.heap.size, 4, none⟩ = some (.slice C.A5 C.rs.length C.c5) := (HC4.out w' hf).cell 4
        refine l_of rfl (v := .slice C.A5 C.rs.length C.c5) (w' := w') (by clear hl hdis; revert e7; generalize a'.eval = ev; intro e7; go_simp) (putD (Fr.refl _ _) (no_foot (by decide)) rfl)
      · have e7 : a'.eval (.tmp 14) = .slice C.A5 C.rs.length C.c5 := hl 14 (by decide)
        refine l_of rfl (v := .int .i64 (C.rs.length : Nat)) (w' := w') (by clear hl hdis; revert e7; generalize a'.eval = ev; intro e7; go_simp) (putD (Fr.refl _ _) (no_foot (by decide)) rfl)
      · have e7 : a'.eval (.tmp 15) = .int .i64 (C.rs.length : Nat) := hl 15 (by decide)
        have hmk := mk_rs C.rs.length (by have := hsz.out; omega) w'
        refine l_of rfl (v := .slice (some ⟨w'.heap.size, 0, none⟩) C.rs.length C.rs.length) (w' := w'.alloc (.cells (List.replicate (C.rs.length * 4) (Value.int .i64 0)).toArray 87)) (by clear hl hdis; revert e7; generalize a'.eval = ev; intro e7; go_simp) (putD ((Fr.refl _ _).alloc _) (no_foot (by decide)) ⟨_, rfl, Is.new _ _ _, (hz ▸ hf.size)⟩)
      · have e7 : a'.eval (.tmp 2) = .pointer (some ⟨w.heap.size, 0, none⟩) := hl 2 (by decide)
        refine l_of rfl (v := .pointer (some ⟨w.heap.size, 0, none⟩)) (w' := w') (by clear hl hdis; revert e7; generalize a'.eval = ev; intro e7; go_simp) (putD (Fr.refl _ _) (no_foot (by decide)) rfl)
      · have e7 : a'.eval (.tmp 17) = .pointer (some ⟨w.heap.size, 0, none⟩) := hl 17 (by decide)
        have c : w'.cell? ⟨w.heap.size, 0, none⟩ = some (.slice C.A1 C.l.length C.c1) := (HC4.out w' hf).cell 0
        refine l_of rfl (v := .slice C.A1 C.l.length C.c1) (w' := w') (by clear hl hdis; revert e7; generalize a'.eval = ev; intro e7; go_simp) (putD (Fr.refl _ _) (no_foot (by decide)) rfl)
      · have e7 : a'.eval (.tmp 18) = .slice C.A1 C.l.length C.c1 := hl 18 (by decide)
        refine l_of rfl (v := .int .i64 (C.l.length : Nat)) (w' := w') (by clear hl hdis; revert e7; generalize a'.eval = ev; intro e7; go_simp) (putD (Fr.refl _ _) (no_foot (by decide)) rfl)
      · have e7 : a'.eval (.tmp 19) = .int .i64 (C.l.length : Nat) := hl 19 (by decide)
        have hmk := mk_mo C.l.length (by have := hsz.out; omega) w'
        refine l_of rfl (v := .slice (some ⟨w'.heap.size, 0, none⟩) C.l.length C.l.length) (w' := w'.alloc (.cells (List.replicate (C.l.length * 2) (Value.int .i64 0)).toArray 89)) (by clear hl hdis; revert e7; generalize a'.eval = ev; intro e7; go_simp) (putD ((Fr.refl _ _).alloc _) (fun _ _ _ q hq => foot_new hq) ⟨_, rfl, Is.new _ _ _, (hz ▸ hf.size)⟩)
      · have e7 : a'.eval (.tmp 2) = .pointer (some ⟨w.heap.size, 0, none⟩) := hl 2 (by decide)
        refine l_of rfl (v := .pointer (some ⟨w.heap.size, 3, none⟩)) (w' := w') (by clear hl hdis; revert e7; generalize a'.eval = ev; intro e7; go_simp) (putD (Fr.refl _ _) (no_foot (by decide)) rfl)
      · have e7 : a'.eval (.tmp 21) = .pointer (some ⟨w.heap.size, 3, none⟩) := hl 21 (by decide)
        have c : w'.cell? ⟨w.heap.size, 3, none⟩ = some (.slice C.A4 C.cr.length C.c4) := (HC4.out w' hf).cell 3
        refine l_of rfl (v := .slice C.A4 C.cr.length C.c4) (w' := w') (by clear hl hdis; revert e7; generalize a'.eval = ev; intro e7; go_simp) (putD (Fr.refl _ _) (no_foot (by decide)) rfl)
      · have e7 : a'.eval (.tmp 22) = .slice C.A4 C.cr.length C.c4 := hl 22 (by decide)
        refine l_of rfl (v := .int .i64 (C.cr.length : Nat)) (w' := w') (by clear hl hdis; revert e7; generalize a'.eval = ev; intro e7; go_simp) (putD (Fr.refl _ _) (no_foot (by decide)) rfl)
      · have e7 : a'.eval (.tmp 23) = .int .i64 (C.cr.length : Nat) := hl 23 (by decide)
        have hmk := mk_mo C.cr.length (by have := hsz.out; omega) w'
        refine l_of rfl (v := .slice (some ⟨w'.heap.size, 0, none⟩) C.cr.length C.cr.length) (w' := w'.alloc (.cells (List.replicate (C.cr.length * 2) (Value.int .i64 0)).toArray 89)) (by clear hl hdis; revert e7; generalize a'.eval = ev; intro e7; go_simp) (putD ((Fr.refl _ _).alloc _) (fun _ _ _ q hq => foot_new hq) ⟨_, rfl, Is.new _ _ _, (hz ▸ hf.size)⟩)
      · have hmk : (Instr.makeSlice 33 (.int .i64 4) (.int .i64 4)).run Try.prog w' = .ok (.slice (some ⟨w'.heap.size, 0, none⟩) 4 4) (w'.alloc (.cells (List.replicate 32 (Value.int .i64 0)).toArray 49)) := mk_ln 4 (by decide) w'
        refine l_of rfl (v := .slice (some ⟨w'.heap.size, 0, none⟩) 4 4) (w' := w'.alloc (.cells (List.replicate 32 (Value.int .i64 0)).toArray 49)) (by clear hl hdis; have e2 : a'.eval (.const (.int .i64 4)) = .int .i64 4 := rfl; revert e2; generalize a'.eval = ev; intro e2; go_simp) (putD ((Fr.refl _ _).alloc _) (no_foot (by decide)) ⟨_, rfl, Is.new _ _ _, (hz ▸ hf.size)⟩)
      · have e7 : a'.eval (.tmp 2) = .pointer (some ⟨w.heap.size, 0, none⟩) := hl 2 (by decide)
        refine l_of rfl (v := .pointer (some ⟨w.heap.size, 0, none⟩)) (w' := w') (by clear hl hdis; revert e7; generalize a'.eval = ev; intro e7; go_simp) (putD (Fr.refl _ _) (no_foot (by decide)) rfl)
      · have e7 : a'.eval (.tmp 26) = .pointer (some ⟨w.heap.size, 0, none⟩) := hl 26 (by decide)
        have c : w'.cell? ⟨w.heap.size, 0, none⟩ = some (.slice C.A1 C.l.length C.c1) := (HC4.out w' hf).cell 0
        refine l_of rfl (v := .slice C.A1 C.l.length C.c1) (w' := w') (by clear hl hdis; revert e7; generalize a'.eval = ev; intro e7; go_simp) (putD (Fr.refl _ _) (no_foot (by decide)) rfl)
      · have e7 : a'.eval (.tmp 27) = .slice C.A1 C.l.length C.c1 := hl 27 (by decide)
        refine l_of rfl (v := .int .i64 (C.l.length : Nat)) (w' := w') (by clear hl hdis; revert e7; generalize a'.eval = ev; intro e7; go_simp) (putD (Fr.refl _ _) (no_foot (by decide)) rfl)
      · have e7 : a'.eval (.tmp 28) = .int .i64 (C.l.length : Nat) := hl 28 (by decide)
        have hmk := mk_int C.l.length (by have := hsz.out; omega) w'
        refine l_of rfl (v := .slice (some ⟨w'.heap.size, 0, none⟩) C.l.length C.l.length) (w' := w'.alloc (.cells (List.replicate (C.l.length * 1) (Value.int .i64 0)).toArray 3)) (by clear hl hdis; revert e7; generalize a'.eval = ev; intro e7; go_simp) (putD ((Fr.refl _ _).alloc _) (fun _ _ _ q hq => foot_new hq) ⟨_, rfl, Is.new _ _ _, (hz ▸ hf.size)⟩)
      · obtain ⟨b1, e1, i1⟩ := (hl 12 (by decide) : (Sp.made _ _ _ _).p _ _)
        obtain ⟨b2, e2, i2⟩ := (hl 16 (by decide) : (Sp.made _ _ _ _).p _ _)
        obtain ⟨b3, e3, i3⟩ := (hl 20 (by decide) : (Sp.made _ _ _ _).p _ _)
        obtain ⟨b4, e4, i4⟩ := (hl 24 (by decide) : (Sp.made _ _ _ _).p _ _)
        obtain ⟨b5, e5, i5⟩ := (hl 25 (by decide) : (Sp.made _ _ _ _).p _ _)
        obtain ⟨b6, e6, i6⟩ := (hl 29 (by decide) : (Sp.made _ _ _ _).p _ _)
        have r3 : listed.getD 3 false = true := hrd ⟨3, .data⟩ (by simp) rfl
        have r11 : listed.getD 11 false = true := hrd ⟨11, .data⟩ (by simp) rfl
        have r15 : listed.getD 15 false = true := hrd ⟨15, .data⟩ (by simp) rfl
        have r20 : listed.getD 20 false = true := hrd ⟨20, .data⟩ (by simp) rfl
        have n1 : b1 ≠ b6 := fun e => hdis (3, 12) (by simp) (20, 29) (by simp) (by decide) r3 r20 b1 ⟨_, e1⟩ ⟨_, e ▸ e6⟩
        have n2 : b3 ≠ b4 := fun e => hdis (11, 20) (by simp) (15, 24) (by simp) (by decide) r11 r15 b3 ⟨_, e3⟩ ⟨_, e ▸ e4⟩
        refine l_of rfl (v := .agg #[.slice (some ⟨b1, 0, none⟩) C.l.length C.l.length, .slice (some ⟨b2, 0, none⟩) C.rs.length C.rs.length, .slice (some ⟨b3, 0, none⟩) C.l.length C.l.length, .slice (some ⟨b4, 0, none⟩) C.cr.length C.cr.length, .slice (some ⟨b5, 0, none⟩) 4 4, .slice (some ⟨b6, 0, none⟩) C.l.length C.l.length, .bool false]) (w' := w') (by clear hl hdis; revert e1 e2 e3 e4 e5 e6; generalize a'.eval = ev; intro e1 e2 e3 e4 e5 e6; go_simp) (putD (Fr.refl _ _) (no_foot (by decide)) ⟨b1, b2, b3, b4, b5, b6, rfl, i1, i2, i3, i4, i5, i6, n1, n2⟩)
      · refine l_of rfl (v := .pointer (some ⟨w'.heap.size, 0, none⟩)) (w' := w'.alloc (.cells #[.slice none 0 0, .slice none 0 0, .slice none 0 0, .slice none 0 0, .slice none 0 0, .slice none 0 0, .bool false] 35)) (by clear hl hdis; generalize a'.eval = ev; go_simp) (putD ((Fr.refl _ _).alloc _) (no_foot (by decide)) ⟨_, rfl, Is.new _ _ _, (hz ▸ hf.size)⟩)
    · intro val w' hf _ hT
      obtain ⟨kb, e8, ibx, hkb⟩ := (hT 5 (by decide) : (Sp.box _ _ _).p _ _)
      obtain ⟨b1, b2, b3, b4, b5, b6, e83, i1, i2, i3, i4, i5, i6, n1, n2⟩ := (hT 30 (by decide) : (agg6d _ _ _ _).p _ _)
      simp only [laidL, List.foldl_cons, List.foldl_nil, e8, e83]
      clear hT
      generalize val 9 = v9; generalize val 10 = v10; generalize val 11 = v11; generalize val 12 = v12; generalize val 13 = v13; generalize val 14 = v14; generalize val 15 = v15; generalize val 16 = v16; generalize val 17 = v17; generalize val 18 = v18; generalize val 19 = v19; generalize val 20 = v20; generalize val 21 = v21; generalize val 22 = v22; generalize val 23 = v23; generalize val 24 = v24; generalize val 25 = v25; generalize val 26 = v26; generalize val 27 = v27; generalize val 28 = v28; generalize val 29 = v29
      simp only [List.setIfInBounds_toArray, List.set_cons_succ, List.set_cons_zero]
      have m0 := seven ibx
      have z0x := ibx.frozen 0
      have z1x := ibx.frozen 1
      have z2x := ibx.frozen 2
      have z3x := ibx.frozen 3
      have z4x := ibx.frozen 4
      have z5x := ibx.frozen 5
      have z6x := ibx.frozen 6
      have ist := (((((((ibx.set 0 (.slice (some ⟨b1, 0, none⟩) C.l.length C.l.length)).set 1 (.slice (some ⟨b2, 0, none⟩) C.rs.length C.rs.length)).set 2 (.slice (some ⟨b3, 0, none⟩) C.l.length C.l.length)).set 3 (.slice (some ⟨b4, 0, none⟩) C.cr.length C.cr.length)).set 4 (.slice (some ⟨b5, 0, none⟩) 4 4)).set 5 (.slice (some ⟨b6, 0, none⟩) C.l.length C.l.length)).set 6 (.bool false))
      have fst := ((((((((Fr.refl (fun q => q = kb) w').setCell (p := ⟨kb, 0, none⟩) (.inl rfl) (.slice (some ⟨b1, 0, none⟩) C.l.length C.l.length)).setCell (p := ⟨kb, 1, none⟩) (.inl rfl) (.slice (some ⟨b2, 0, none⟩) C.rs.length C.rs.length)).setCell (p := ⟨kb, 2, none⟩) (.inl rfl) (.slice (some ⟨b3, 0, none⟩) C.l.length C.l.length)).setCell (p := ⟨kb, 3, none⟩) (.inl rfl) (.slice (some ⟨b4, 0, none⟩) C.cr.length C.cr.length)).setCell (p := ⟨kb, 4, none⟩) (.inl rfl) (.slice (some ⟨b5, 0, none⟩) 4 4)).setCell (p := ⟨kb, 5, none⟩) (.inl rfl) (.slice (some ⟨b6, 0, none⟩) C.l.length C.l.length)).setCell (p := ⟨kb, 6, none⟩) (.inl rfl) (.bool false))
      have hno : ∀ b t cs, Is w' b t cs → t ≠ 35 → ¬ b = kb := fun b t cs h ht => is_ne h ibx ht
      have q1 := i1.1.fr fst (hno _ _ _ i1.1 (by decide))
      have q2 := i2.1.fr fst (hno _ _ _ i2.1 (by decide))
      have q3 := i3.1.fr fst (hno _ _ _ i3.1 (by decide))
      have q4 := i4.1.fr fst (hno _ _ _ i4.1 (by decide))
      have q5 := i5.1.fr fst (hno _ _ _ i5.1 (by decide))
      have q6 := i6.1.fr fst (hno _ _ _ i6.1 (by decide))
      have hb1 : w1.heap.size ≤ z0 := by rw [hz]; exact Nat.le_refl _
      have HR : Hid (Bx w1 (((((((w'.setCell ⟨kb, 0, none⟩ (.slice (some ⟨b1, 0, none⟩) C.l.length C.l.length)).setCell ⟨kb, 1, none⟩ (.slice (some ⟨b2, 0, none⟩) C.rs.length C.rs.length)).setCell ⟨kb, 2, none⟩ (.slice (some ⟨b3, 0, none⟩) C.l.length C.l.length)).setCell ⟨kb, 3, none⟩ (.slice (some ⟨b4, 0, none⟩) C.cr.length C.cr.length)).setCell ⟨kb, 4, none⟩ (.slice (some ⟨b5, 0, none⟩) 4 4)).setCell ⟨kb, 5, none⟩ (.slice (some ⟨b6, 0, none⟩) C.l.length C.l.length)).setCell ⟨kb, 6, none⟩ (.bool false)) kb ⟨some ⟨b1, 0, none⟩, C.l.length, List.replicate C.l.length 0, some ⟨b2, 0, none⟩, C.rs.length, List.replicate C.rs.length ⟨0, 0, 0, 0⟩, some ⟨b3, 0, none⟩, C.l.length, List.replicate C.l.length ⟨0, 0⟩, some ⟨b4, 0, none⟩, C.cr.length, List.replicate C.cr.length ⟨0, 0⟩, some ⟨b5, 0, none⟩, 4, List.replicate 4 default, some ⟨b6, 0, none⟩, C.l.length, List.replicate C.l.length 0, false⟩) := Lib.hid (by
        have hs := hsz.out
        refine ⟨?_, ⟨?_, ?_, ?_, ?_, ?_, ?_, ?_, ?_⟩, ((Fr.refl (fun _ => False) w1).drew.trans hf fun _ _ h => h).trans fst fun q hq e => by omega, by omega⟩
        · unfold Km.arr
          simp only [List.length_replicate]
          exact ist
        · simp only [List.length_replicate, List.map_replicate]
          exact own_of_is (by simpa using q1) (by omega) (by simp) (by unfold maxLen; omega)
        · simp only [List.length_replicate, rep_flat cRs ⟨0, 0, 0, 0⟩ (.int .i64 0) 4 rfl]
          exact own_of_is q2 (by omega) (by simp) (by unfold maxLen; omega)
        · simp only [List.length_replicate, rep_flat cMo ⟨0, 0⟩ (.int .i64 0) 2 rfl]
          exact own_of_is q3 (by omega) (by simp) (by unfold maxLen; omega)
        · simp only [List.length_replicate, rep_flat cMo ⟨0, 0⟩ (.int .i64 0) 2 rfl]
          exact own_of_is q4 (by omega) (by simp) (by unfold maxLen; omega)
        · simp only [List.length_replicate, rep_flat cLn default (.int .i64 0) 8 rfl]
          exact own_of_is (xs := List.replicate (4 * 8) (.int .i64 0)) q5 (by omega) (by simp) (by unfold maxLen; omega)
        · simp only [List.length_replicate, List.map_replicate]
          exact own_of_is (by simpa using q6) (by omega) (by simp) (by unfold maxLen; omega)
        · intro k e e'
          have e1 : b1 = k := by simpa [blk] using e
          have e2 : b6 = k := by simpa [blk] using e'
          exact n1 (e1.trans e2.symm)
        · intro k e e'
          have e1 : b3 = k := by simpa [blk] using e
          have e2 : b4 = k := by simpa [blk] using e'
          exact n2 (e1.trans e2.symm))
      clear q1 q2 q3 q4 q5 q6 ist fst hno
      refine tail1 rfl rfl rfl (w' := (((((((w'.setCell ⟨kb, 0, none⟩ (.slice (some ⟨b1, 0, none⟩) C.l.length C.l.length)).setCell ⟨kb, 1, none⟩ (.slice (some ⟨b2, 0, none⟩) C.rs.length C.rs.length)).setCell ⟨kb, 2, none⟩ (.slice (some ⟨b3, 0, none⟩) C.l.length C.l.length)).setCell ⟨kb, 3, none⟩ (.slice (some ⟨b4, 0, none⟩) C.cr.length C.cr.length)).setCell ⟨kb, 4, none⟩ (.slice (some ⟨b5, 0, none⟩) 4 4)).setCell ⟨kb, 5, none⟩ (.slice (some ⟨b6, 0, none⟩) C.l.length C.l.length)).setCell ⟨kb, 6, none⟩ (.bool false))) (by go_simp) ?_
      go_wp2_with fail
      go_meet
      case rel => exact ⟨kb, _, rfl, rfl, HR.out, fun _ => ⟨_, rfl⟩, fun _ => ⟨_, rfl⟩⟩
  case rest =>
    clear HC4
    obtain ⟨kb, K, rfl, hkp, hbx, hA3, hA4⟩ := hcut
    have HKP := Lib.hid hkp
    have HA3 := Lib.hid hA3
    have HA4 := Lib.hid hA4
    have e3 : K.pts = fillP (stM now) ⟨0, 0⟩ C.l 0 := by rw [fillP_zero]; exact congrArg Kp.pts hkp
    have e4 : K.crs = fillP (crM now) ⟨0, 0⟩ C.cr 0 := by rw [fillP_zero]; exact congrArg Kp.crs hkp
    have HB0 : Hid (Bx w1 wc kb { K with pts := fillP (stM now) ⟨0, 0⟩ C.l 0 }) := Lib.hid (by rw [← e3]; exact hbx)
    have HE4 := Lib.hid e4
    clear hkp hbx hA3 hA4 e3 e4
    have c0 : wc.cell? ⟨w.heap.size, 0, none⟩ = some (.slice C.A1 C.l.length C.c1) := (HIC.out.fr HB0.out.f id).cell 0
    go_wp2_with fail
    clear c0
    go_loopw [34] (fun i wr => ∃ k, k ≤ C.l.length ∧ i = .int .i64 (k : Nat) ∧ Bx w1 wr kb { K with pts := fillP (stM now) ⟨0, 0⟩ C.l k }) (fun i _ => C.l.length - (intOf i).toNat)
    case atStart => exact ⟨0, Nat.zero_le _, rfl, HB0.out⟩
    case round =>
      clear HB0
      obtain ⟨k, hk, rfl, hbx⟩ := hrel
      have HZ0 := Lib.hid hbx
      clear hbx
      by_cases hlt : k < C.l.length
      · obtain ⟨g, o, e1, q0, q1, q2⟩ := rd_sec (HC.out.fr (fr_nil HF0.out HZ0.out.f)).secs hlt
        obtain ⟨g1, hB⟩ := HA3.out (by omega)
        have HB := Lib.hid hB
        have HJ := Lib.hid hlt
        have i1 : (0 : Int) ≤ (k : Int) := by omega
        have i2 : (k : Int) < (C.l.length : Int) := by omega
        have i5 : (k : Int) < 140737488351232 := by have := hsz.out; omega
        clear hB
        rw [e1]
        have HE1 := Lib.hid e1
        clear e1
        by_cases hkd : (C.l[k]'hlt).kind = 1
        · have HP : Hid (∃ h : k < C.l.length, (C.l[k]'h).kind = 1) := Lib.hid ⟨hlt, hkd⟩
          rw [hkd] at q0
          clear hkd
          generalize C.l[k]'hlt = x at *
          go_upto_region 6 with fail
          have FB := (Fr.refl (fun _ => False) wr).alloc (.cells #[.int .i64 1, .int .i64 x.oc, .int .i64 x.line] 73)
          generalize wr.alloc _ = wb at *
          have HZ := Lib.hid (HZ0.out.fr FB)
          have KS := fun W => Mv.start_any now W
          have HS : Hid (∀ W, Fr (fun _ => False) wb W → W.cell? ⟨kb, 2, none⟩ = some (.slice (some ⟨g1, 0, none⟩) C.l.length K.c3)) := Lib.hid fun W fW => bx_cell2 (HZ.out.fr fW) (by have := HJ.out; omega) HB.out
          clear FB q0 q1 q2 hlt
          refine wp_region_held_drew (S := (fun Wx => Wx.cell? ⟨kb, 2, none⟩ = some (.slice (some ⟨g1, 0, none⟩) C.l.length K.c3))) (by kernel_rfl) (HS.out _ (Fr.refl _ wb).drew) (fun hHeld => ?_)
          refine wpAnyH_take (i := 0) (oi := { dst := some 42, op := _, type := _, pos := _, after := _, guard := _ }) (v := ?_) rfl (by kernel_rfl) (by kernel_rfl) (by kernel_rfl) (fun _ _ _ h => h) (Or.inl ⟨by rfl, ?_⟩) (by assumption) ?_
          rotate_left
          · intro Wx hSw
            try dsimp only at hSw
            go_simp
            try with_reducible rfl
          try simp only [Act.put, List.setIfInBounds_toArray, List.set_cons_zero, List.set_cons_succ]
          refine wpAnyH_take (i := 1) (oi := { dst := some 43, op := _, type := _, pos := _, after := _, guard := _ }) (v := ?_) rfl (by kernel_rfl) (by kernel_rfl) (by kernel_rfl) (fun _ _ _ h => h) (Or.inl ⟨by rfl, ?_⟩) (by assumption) ?_
          rotate_left
          · intro Wx hSw
            try dsimp only at hSw
            go_simp
            try with_reducible rfl
          try simp only [Act.put, List.setIfInBounds_toArray, List.set_cons_zero, List.set_cons_succ]
          refine wpAnyH_take (i := 2) (oi := { dst := some 44, op := _, type := _, pos := _, after := _, guard := _ }) (v := ?_) rfl (by kernel_rfl) (by kernel_rfl) (by kernel_rfl) (fun _ _ _ h => h) (Or.inl ⟨by rfl, ?_⟩) (by assumption) ?_
          rotate_left
          · intro Wx hSw
            try dsimp only at hSw
            go_simp
            try with_reducible rfl
          try simp only [Act.put, List.setIfInBounds_toArray, List.set_cons_zero, List.set_cons_succ]
          refine wpAnyH_take (i := 3) (oi := { dst := some 45, op := _, type := _, pos := _, after := _, guard := _ }) (v := ?_) rfl (by kernel_rfl) (by kernel_rfl) (by kernel_rfl) (fun _ _ _ h => h) (Or.inl ⟨by rfl, ?_⟩) (by assumption) ?_
          rotate_left
          · intro Wx hSw
            try dsimp only at hSw
            go_simp
            try with_reducible rfl
          try simp only [Act.put, List.setIfInBounds_toArray, List.set_cons_zero, List.set_cons_succ]
          refine wpAnyH_ready (rs := [4]) (by kernel_rfl) (by simp) (AllReadyH.cons rfl (fun KK hKK => ?_) AllReadyH.nil)
          go_simp
          refine (KS _).mono ?_
          rintro e v ⟨rfl, fv⟩
          go_simp
          refine hKK.out _ _ (HS.out _ ((Fr.refl _ wb).drew.trans fv fun _ _ e => e)) (fun hHeld => ?_)
          clear hKK KK
          have HV := Lib.hid (HZ.out.fr ((Fr.refl _ wb).drew.trans fv fun _ _ e => e))
          obtain ⟨HVN, HSN, u1, u2, i1, i2, z1, z2⟩ := bx_point3 HV.out HP.out HB.out HJ.out now
          clear KS
          refine wpAnyH_take (i := 5) (oi := { dst := some 47, op := _, type := _, pos := _, after := _, guard := _ }) (v := ?_) rfl (by kernel_rfl) (by kernel_rfl) (by kernel_rfl) (fun _ _ _ h => h) (Or.inl ⟨by rfl, ?_⟩) (by assumption) ?_
          rotate_left
          · intro Wx hSw
            try dsimp only at hSw
            go_simp
            try with_reducible rfl
          try simp only [Act.put, List.setIfInBounds_toArray, List.set_cons_zero, List.set_cons_succ]
          refine wpAnyH_ready (rs := [6]) (by kernel_rfl) (by simp) (AllReadyH.cons rfl (fun KK hKK => ?_) AllReadyH.nil)
          go_simp
          refine hKK.out _ _ HSN.out (fun hHeld => ?_)
          clear hKK KK
          refine wpAnyH_done (by kernel_rfl) ?_ _

          go_wp2_with fail
          go_roundw
          case rel => exact ⟨k + 1, by have := HJ.out; omega, by go_num, HVN.out⟩
          case measure => have := HJ.out; simp [intOf]; omega
        · have HN : Hid (fillP (stM now) ⟨0, 0⟩ C.l (k + 1) = fillP (stM now) ⟨0, 0⟩ C.l k) := Lib.hid (fillP_same _ _ _ _ hlt (by unfold stM; rw [if_neg hkd]))
          have hd : ((C.l[k]'hlt).kind == 1) = false := by simpa using hkd
          clear hkd
          generalize C.l[k]'hlt = x at *
          go_wp2_with fail
          go_roundw
          case rel => exact ⟨k + 1, by have := HJ.out; omega, by go_num, by rw [HN.out]; exact HZ0.out.fr ((Fr.refl _ _).alloc _)⟩
          case measure => have := HJ.out; simp [intOf]; omega
      · have hkn : k = C.l.length := by omega
        subst hkn
        have HZ : Hid (Bx w1 wr kb { K with pts := C.l.map (stM now), crs := fillP (crM now) ⟨0, 0⟩ C.cr 0 }) := Lib.hid (by
          have := HZ0.out
          rw [fillP_all _ _ _ _ (Nat.le_refl _)] at this
          rw [← HE4.out]
          exact this)
        have c3 : wr.cell? ⟨kb, 3, none⟩ = some (.slice K.A4 C.cr.length K.c4) := by
          have := HZ.out.is.cell 3
          simpa [Km.arr, fillP_len] using this
        clear HZ0 hlt
        go_wp2_with fail
        clear c3
        go_loopw [52] (fun i wr => ∃ k, k ≤ C.cr.length ∧ i = .int .i64 (k : Nat) ∧ Bx w1 wr kb { K with pts := C.l.map (stM now), crs := fillP (crM now) ⟨0, 0⟩ C.cr k }) (fun i _ => C.cr.length - (intOf i).toNat)
        case atStart => exact ⟨0, Nat.zero_le _, rfl, HZ.out⟩
        case round =>
          clear HZ
          obtain ⟨k, hk, rfl, hbx⟩ := hrel
          have HZ := Lib.hid hbx
          clear hbx
          by_cases hlt : k < C.cr.length
          · obtain ⟨g1, hB⟩ := HA4.out (by omega)
            have HB := Lib.hid hB
            have HJ := Lib.hid hlt
            have HP : Hid True := Lib.hid trivial
            have i1 : (0 : Int) ≤ (k : Int) := by omega
            have i2 : (k : Int) < (C.cr.length : Int) := by omega
            have i5 : (k : Int) < 140737488351232 := by have := hsz.out; omega
            have KS := fun W => Mv.start_any now W
            have KC := fun W => Mv.command_any 0 now now 1 W
            rw [if_neg (show ¬ (0 : Int) = 1 by decide)] at KC
            go_upto_region 11 with fail
            generalize hwb : wr = wb at *
            clear hwb
            have HS : Hid (∀ W, Fr (fun _ => False) wb W → W.cell? ⟨kb, 3, none⟩ = some (.slice (some ⟨g1, 0, none⟩) C.cr.length K.c4)) := Lib.hid fun W fW => bx_cell3 (HZ.out.fr fW) (by have := HJ.out; omega) HB.out
            clear hB hlt
            refine wp_region_held_drew (S := (fun Wx => Wx.cell? ⟨kb, 3, none⟩ = some (.slice (some ⟨g1, 0, none⟩) C.cr.length K.c4))) (by kernel_rfl) (HS.out _ (Fr.refl _ wb).drew) (fun hHeld => ?_)
            refine wpAnyH_take (i := 0) (oi := { dst := some 55, op := _, type := _, pos := _, after := _, guard := _ }) (v := ?_) rfl (by kernel_rfl) (by kernel_rfl) (by kernel_rfl) (fun _ _ _ h => h) (Or.inl ⟨by rfl, ?_⟩) (by assumption) ?_
            rotate_left
            · intro Wx hSw
              try dsimp only at hSw
              go_simp
              try with_reducible rfl
            try simp only [Act.put, List.setIfInBounds_toArray, List.set_cons_zero, List.set_cons_succ]
            refine wpAnyH_take (i := 1) (oi := { dst := some 56, op := _, type := _, pos := _, after := _, guard := _ }) (v := ?_) rfl (by kernel_rfl) (by kernel_rfl) (by kernel_rfl) (fun _ _ _ h => h) (Or.inl ⟨by rfl, ?_⟩) (by assumption) ?_
            rotate_left
            · intro Wx hSw
              try dsimp only at hSw
              go_simp
              try with_reducible rfl
            try simp only [Act.put, List.setIfInBounds_toArray, List.set_cons_zero, List.set_cons_succ]
            refine wpAnyH_take (i := 2) (oi := { dst := some 57, op := _, type := _, pos := _, after := _, guard := _ }) (v := ?_) rfl (by kernel_rfl) (by kernel_rfl) (by kernel_rfl) (fun _ _ _ h => h) (Or.inl ⟨by rfl, ?_⟩) (by assumption) ?_
            rotate_left
            · intro Wx hSw
              try dsimp only at hSw
              go_simp
              try with_reducible rfl
            try simp only [Act.put, List.setIfInBounds_toArray, List.set_cons_zero, List.set_cons_succ]
            refine wpAnyH_take (i := 3) (oi := { dst := some 58, op := _, type := _, pos := _, after := _, guard := _ }) (v := ?_) rfl (by kernel_rfl) (by kernel_rfl) (by kernel_rfl) (fun _ _ _ h => h) (Or.inl ⟨by rfl, ?_⟩) (by assumption) ?_
            rotate_left
            · intro Wx hSw
              try dsimp only at hSw
              go_simp
              try with_reducible rfl
            try simp only [Act.put, List.setIfInBounds_toArray, List.set_cons_zero, List.set_cons_succ]
            refine wpAnyH_take (i := 5) (oi := { dst := some 60, op := _, type := _, pos := _, after := _, guard := _ }) (v := ?_) rfl (by kernel_rfl) (by kernel_rfl) (by kernel_rfl) (fun _ _ _ h => h) (Or.inl ⟨by rfl, ?_⟩) (by assumption) ?_
            rotate_left
            · intro Wx hSw
              try dsimp only at hSw
              go_simp
              try with_reducible rfl
            try simp only [Act.put, List.setIfInBounds_toArray, List.set_cons_zero, List.set_cons_succ]
            refine wpAnyH_ready (rs := [4]) (by kernel_rfl) (by simp) (AllReadyH.cons rfl (fun KK hKK => ?_) AllReadyH.nil)
            go_simp
            refine (KS _).mono ?_
            rintro e v0 ⟨rfl, fv0⟩
            have HV0 := Lib.hid ((Fr.refl (fun _ => False) wb).drew.trans fv0 fun _ _ e => e)
            clear fv0
            go_simp
            refine hKK.out _ _ (HS.out _ HV0.out) (fun hHeld => ?_)
            clear hKK KK
            refine wpAnyH_ready (rs := [6]) (by kernel_rfl) (by simp) (AllReadyH.cons rfl (fun KK hKK => ?_) AllReadyH.nil)
            go_simp
            refine (KC _).mono ?_
            rintro e v ⟨rfl, fv⟩
            go_simp
            refine hKK.out _ _ (HS.out _ (fr_nil HV0.out fv)) (fun hHeld => ?_)
            clear hKK KK
            have HV := Lib.hid (HZ.out.fr (fr_nil HV0.out fv))
            obtain ⟨HVN, HSN, u1, u2, i1, i2, z1, z2⟩ := bx_cross3 HV.out HP.out HB.out HJ.out now
            clear KS KC
            refine wpAnyH_take (i := 7) (oi := { dst := some 62, op := _, type := _, pos := _, after := _, guard := _ }) (v := ?_) rfl (by kernel_rfl) (by kernel_rfl) (by kernel_rfl) (fun _ _ _ h => h) (Or.inl ⟨by rfl, ?_⟩) (by assumption) ?_
            rotate_left
            · intro Wx hSw
              try dsimp only at hSw
              go_simp
              try with_reducible rfl
            try simp only [Act.put, List.setIfInBounds_toArray, List.set_cons_zero, List.set_cons_succ]
            refine wpAnyH_ready (rs := [8]) (by kernel_rfl) (by simp) (AllReadyH.cons rfl (fun KK hKK => ?_) AllReadyH.nil)
            go_simp
            refine hKK.out _ _ HSN.out (fun hHeld => ?_)
            clear hKK KK
            refine wpAnyH_done (by kernel_rfl) ?_ _

            go_wp2_with fail
            go_roundw
            case rel => exact ⟨k + 1, by have := HJ.out; omega, by go_num, HVN.out⟩
            case measure => have := HJ.out; simp [intOf]; omega
          · have hkn : k = C.cr.length := by omega
            subst hkn
            clear hlt
            have HV : Hid (Bx w1 wr kb { K with pts := C.l.map (stM now), crs := C.cr.map (crM now) }) := Lib.hid (by
              have := HZ.out
              rw [fillP_all _ _ _ _ (Nat.le_refl _)] at this
              exact this)
            have HQ : Hid (({ K with pts := C.l.map (stM now), crs := C.cr.map (crM now) } : Km).kp = blankM C.cf now) := Lib.hid (by
              have h := HKP.out
              unfold Km.kp at h ⊢
              simp only [Kp.mk.injEq] at h
              obtain ⟨h1, h2, h3, h4, h5, h6, h7⟩ := h
              unfold blankM Cm.cf
              simp only [Kp.mk.injEq]
              refine ⟨?_, ?_, rfl, rfl, h5, ?_, h7⟩
              · rw [h1, List.map_const']
              · rw [h2, List.map_const', List.length_map]
              · rw [h6, List.map_const'])
            clear HZ HKP HE4 HA3 HA4
            generalize ({ K with pts := C.l.map (stM now), crs := C.cr.map (crM now) } : Km) = K3 at HV HQ
            obtain ⟨k0, k1, k2, k3, k4, k5, k6⟩ := core_cells (K := K3) HV.out.is
            have isr := HIR.out.fr HV.out.f id
            obtain ⟨m0, m1, m2, m3, m4, m5, m6⟩ := seven isr
            have z0x := isr.frozen 0
            have z1x := isr.frozen 1
            have z2x := isr.frozen 2
            have z3x := isr.frozen 3
            have z4x := isr.frozen 4
            have z5x := isr.frozen 5
            have z6x := isr.frozen 6
            have isR := (((((((isr.set 0 (.slice K3.A1 K3.own.length K3.c1)).set 1 (.slice K3.A2 K3.rts.length K3.c2)).set 2 (.slice K3.A3 K3.pts.length K3.c3)).set 3 (.slice K3.A4 K3.crs.length K3.c4)).set 4 (.slice K3.A5 K3.lns.length K3.c5)).set 5 (.slice K3.A6 K3.rss.length K3.c6)).set 6 (.bool K3.dirty))
            have fR := ((((((((Fr.refl (fun q => q = w.heap.size + 1) wr).setCell (p := ⟨w.heap.size + 1, 0, none⟩) (.inl rfl) (.slice K3.A1 K3.own.length K3.c1)).setCell (p := ⟨w.heap.size + 1, 1, none⟩) (.inl rfl) (.slice K3.A2 K3.rts.length K3.c2)).setCell (p := ⟨w.heap.size + 1, 2, none⟩) (.inl rfl) (.slice K3.A3 K3.pts.length K3.c3)).setCell (p := ⟨w.heap.size + 1, 3, none⟩) (.inl rfl) (.slice K3.A4 K3.crs.length K3.c4)).setCell (p := ⟨w.heap.size + 1, 4, none⟩) (.inl rfl) (.slice K3.A5 K3.lns.length K3.c5)).setCell (p := ⟨w.heap.size + 1, 5, none⟩) (.inl rfl) (.slice K3.A6 K3.rss.length K3.c6)).setCell (p := ⟨w.heap.size + 1, 6, none⟩) (.inl rfl) (.bool K3.dirty))
            simp only [List.setIfInBounds_toArray, List.set_cons_zero, List.set_cons_succ] at isR
            go_wp2_with fail
            generalize hW : World.setCell _ _ _ = W at *
            have d0 := isR.cell 0
            have d1 := isR.cell 1
            have d2 := isR.cell 2
            have d3 := isR.cell 3
            have d4 := isR.cell 4
            have d5 := isR.cell 5
            have d6 := isR.cell 6
            have hn1 : w.heap.size + 2 ≤ w1.heap.size := HN1.out
            have HOW : K3.Own w.heap.size W := (HV.out.own.fr fR fun k hk e => by have a := (HV.out.own.lt k hk).1; omega).base (by omega)
            have FW : Fr (fun _ => False) w W := (fr_nil HF0.out HV.out.f).trans fR fun k hk e => by omega
            refine bodyPost_ret (v := K3.val) ?_ rfl ⟨K3, rfl, HQ.out, HOW, FW⟩
            unfold Km.val Km.arr
            simp [results, Try.results32, go_sem, d0, d1, d2, d3, d4, d5, d6]
end Go.Proofs.Ytnnacdkijeoeoaa.Lk

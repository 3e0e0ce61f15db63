/- How a state of the interlocking lies in memory; flat rows of structs. -/
import Derived.Test.YtnnacdkijeoeoaaKc
import Derived.Laws.OwnMore
namespace Go.Proofs.Ytnnacdkijeoeoaa.Lk
open Go.RowKit

/-! ### Flat rows -/
theorem flat_len {α : Type} (g : α → List Value) {n : Nat} (hg : ∀ a, (g a).length = n) : ∀ l : List α, (l.flatMap g).length = l.length * n
  | [] => by simp
  | a :: r => by rw [List.flatMap_cons, List.length_append, hg, flat_len g hg r, List.length_cons, Nat.succ_mul, Nat.add_comm]
theorem flat_get {α : Type} (g : α → List Value) {n : Nat} (hg : ∀ a, (g a).length = n) : ∀ (l : List α) (j : Nat) (hj : j < l.length) (k : Nat), k < n → (l.flatMap g)[j * n + k]? = (g l[j])[k]?
  | a :: r, 0, _, k, hk => by
    rw [List.flatMap_cons, Nat.zero_mul, Nat.zero_add, List.getElem?_append_left (by rw [hg]; exact hk)]; rfl
  | a :: r, j + 1, hj, k, hk => by
    rw [List.flatMap_cons, List.getElem?_append_right (by rw [hg, Nat.succ_mul]; omega), hg, show (j + 1) * n + k - n = j * n + k by rw [Nat.succ_mul]; omega]
    simpa using flat_get g hg r j (by simpa using hj) k hk
theorem flat_set {α : Type} (g : α → List Value) {n : Nat} (hg : ∀ a, (g a).length = n) : ∀ (l : List α) (j : Nat) (hj : j < l.length) (k : Nat), k < n → ∀ (u : Value) (a' : α), g a' = (g l[j]).set k u → (l.flatMap g).set (j * n + k) u = (l.set j a').flatMap g
  | a :: r, 0, _, k, hk, u, a', h => by
    rw [List.flatMap_cons, Nat.zero_mul, Nat.zero_add, List.set_append_left _ _ (by rw [hg]; exact hk), List.set_cons_zero, List.flatMap_cons, h]; rfl
  | a :: r, j + 1, hj, k, hk, u, a', h => by
    rw [List.flatMap_cons, List.set_append_right _ _ (by rw [hg, Nat.succ_mul]; omega), hg, show (j + 1) * n + k - n = j * n + k by rw [Nat.succ_mul]; omega, List.set_cons_succ, List.flatMap_cons]
    rw [flat_set g hg r j (by simpa using hj) k hk u a' (by simpa using h)]
theorem rd_flat {α : Type} (g : α → List Value) {n : Nat} (hg : ∀ a, (g a).length = n) {w : World} {A : Option Addr} {l : List α} (h : Rd w A (l.flatMap g)) {j : Nat} (hj : j < l.length) (hn : 0 < n) :
    ∃ b o, A = some ⟨b, o, none⟩ ∧ b < w.heap.size ∧ ∀ k u, k < n → (g l[j])[k]? = some u → w.cell? ⟨b, o + j * n + k, none⟩ = some u := by
  have hl : 0 < (l.flatMap g).length := by
    rw [flat_len g hg]
    exact Nat.mul_pos (by omega) hn
  obtain ⟨b, o, rfl, hb, hc⟩ := h hl
  refine ⟨b, o, rfl, hb, fun k u hk hu => ?_⟩
  rw [Nat.add_assoc]
  exact hc _ _ ((flat_get g hg l j hj k hk).trans hu)
/-- an element's cell of a row of the call's own is stored -/
theorem own_set {α : Type} (g : α → List Value) {n : Nat} (hg : ∀ a, (g a).length = n) {w : World} {B b m c : Nat} {e : TypeId} {l : List α} (h : w.ownsRow B e n (.slice (some ⟨b, 0, none⟩) m c) m (l.flatMap g)) {j k : Nat} (hj : j < l.length) (hk : k < n) (u : Value) (a' : α) (ha : g a' = (g l[j]).set k u) :
    (w.setCell ⟨b, j * n + k, none⟩ u).ownsRow B e n (.slice (some ⟨b, 0, none⟩) m c) m ((l.set j a').flatMap g) := by
  have := (h.stored (j * n + k) u).1
  rw [flat_set g hg l j hj k hk u a' ha] at this
  exact this
theorem own_some {w : World} {B m c n : Nat} {A : Option Addr} {e : TypeId} {xs : List Value} (h : w.ownsRow B e n (.slice A m c) m xs) (hm : 0 < m) : ∃ b, A = some ⟨b, 0, none⟩ ∧ B ≤ b ∧ b < w.heap.size := by
  rcases h.2 with ⟨_, k⟩ | ⟨g, cap, cur, hv, hb, hg, _⟩
  · omega
  · injection hv with hv
    exact ⟨g, hv, hb, lt_of_block hg⟩

/-! ### The elements -/
structure Rs where
  st : Int
  since : Int
  nxt : Int
  mark : Int
deriving DecidableEq
structure Mo where
  cmd : Int
  oth : Int
deriving DecidableEq
structure Ln where
  ask : Int
  dn : Int
  gr : Int
  told : Int
  pa : Int
  pd : Int
  pg : Int
  since : Int
deriving DecidableEq
instance : Inhabited Rs := ⟨⟨0, 0, 0, 0⟩⟩
instance : Inhabited Mo := ⟨⟨0, 0⟩⟩
instance : Inhabited Ln := ⟨⟨0, 0, 0, 0, 0, 0, 0, 0⟩⟩
def cI (x : Int) : List Value := [.int .i64 x]
def cRs (r : Rs) : List Value := [.int .i64 r.st, .int .i64 r.since, .int .i64 r.nxt, .int .i64 r.mark]
def cMo (m : Mo) : List Value := [.int .i64 m.cmd, .int .i64 m.oth]
def cLn (l : Ln) : List Value := [.int .i64 l.ask, .int .i64 l.dn, .int .i64 l.gr, .int .i64 l.told, .int .i64 l.pa, .int .i64 l.pd, .int .i64 l.pg, .int .i64 l.since]
theorem cRs_len (r : Rs) : (cRs r).length = 4 := rfl
theorem cMo_len (r : Mo) : (cMo r).length = 2 := rfl
theorem cLn_len (r : Ln) : (cLn r).length = 8 := rfl
theorem rd_rs {w : World} {A : Option Addr} {l : List Rs} (h : Rd w A (l.flatMap cRs)) {j : Nat} (hj : j < l.length) : ∃ g o, A = some ⟨g, o, none⟩ ∧ w.cell? ⟨g, o + j * 4, none⟩ = some (.int .i64 l[j].st) ∧ w.cell? ⟨g, o + j * 4 + 1, none⟩ = some (.int .i64 l[j].since) ∧ w.cell? ⟨g, o + j * 4 + 2, none⟩ = some (.int .i64 l[j].nxt) ∧ w.cell? ⟨g, o + j * 4 + 3, none⟩ = some (.int .i64 l[j].mark) := by
  obtain ⟨b, o, hA, _, hc⟩ := rd_flat cRs cRs_len h hj (by decide)
  exact ⟨b, o, hA, hc 0 _ (by decide) rfl, hc 1 _ (by decide) rfl, hc 2 _ (by decide) rfl, hc 3 _ (by decide) rfl⟩
theorem rd_mo {w : World} {A : Option Addr} {l : List Mo} (h : Rd w A (l.flatMap cMo)) {j : Nat} (hj : j < l.length) : ∃ g o, A = some ⟨g, o, none⟩ ∧ w.cell? ⟨g, o + j * 2, none⟩ = some (.int .i64 l[j].cmd) ∧ w.cell? ⟨g, o + j * 2 + 1, none⟩ = some (.int .i64 l[j].oth) := by
  obtain ⟨b, o, hA, _, hc⟩ := rd_flat cMo cMo_len h hj (by decide)
  exact ⟨b, o, hA, hc 0 _ (by decide) rfl, hc 1 _ (by decide) rfl⟩
theorem rd_ln {w : World} {A : Option Addr} {l : List Ln} (h : Rd w A (l.flatMap cLn)) {j : Nat} (hj : j < l.length) : ∃ g o, A = some ⟨g, o, none⟩ ∧ w.cell? ⟨g, o + j * 8, none⟩ = some (.int .i64 l[j].ask) ∧ w.cell? ⟨g, o + j * 8 + 1, none⟩ = some (.int .i64 l[j].dn) ∧ w.cell? ⟨g, o + j * 8 + 2, none⟩ = some (.int .i64 l[j].gr) ∧ w.cell? ⟨g, o + j * 8 + 3, none⟩ = some (.int .i64 l[j].told) ∧
    w.cell? ⟨g, o + j * 8 + 4, none⟩ = some (.int .i64 l[j].pa) ∧ w.cell? ⟨g, o + j * 8 + 5, none⟩ = some (.int .i64 l[j].pd) ∧ w.cell? ⟨g, o + j * 8 + 6, none⟩ = some (.int .i64 l[j].pg) ∧ w.cell? ⟨g, o + j * 8 + 7, none⟩ = some (.int .i64 l[j].since) := by
  obtain ⟨b, o, hA, _, hc⟩ := rd_flat cLn cLn_len h hj (by decide)
  exact ⟨b, o, hA, hc 0 _ (by decide) rfl, hc 1 _ (by decide) rfl, hc 2 _ (by decide) rfl, hc 3 _ (by decide) rfl, hc 4 _ (by decide) rfl, hc 5 _ (by decide) rfl, hc 6 _ (by decide) rfl, hc 7 _ (by decide) rfl⟩

/-! ### States -/
/-- a state, as plain data -/
structure Kp where
  own : List Int
  rts : List Rs
  pts : List Mo
  crs : List Mo
  lns : List Ln
  rss : List Int
  dirty : Bool
deriving DecidableEq
/-- a state with its lists' addresses -/
structure Km where
  A1 : Option Addr
  c1 : Nat
  own : List Int
  A2 : Option Addr
  c2 : Nat
  rts : List Rs
  A3 : Option Addr
  c3 : Nat
  pts : List Mo
  A4 : Option Addr
  c4 : Nat
  crs : List Mo
  A5 : Option Addr
  c5 : Nat
  lns : List Ln
  A6 : Option Addr
  c6 : Nat
  rss : List Int
  dirty : Bool
def Km.kp (K : Km) : Kp := ⟨K.own, K.rts, K.pts, K.crs, K.lns, K.rss, K.dirty⟩
def Km.arr (K : Km) : Array Value := #[.slice K.A1 K.own.length K.c1, .slice K.A2 K.rts.length K.c2, .slice K.A3 K.pts.length K.c3, .slice K.A4 K.crs.length K.c4, .slice K.A5 K.lns.length K.c5, .slice K.A6 K.rss.length K.c6, .bool K.dirty]
def Km.val (K : Km) : Value := .agg K.arr
/-- a state that can be read -/
structure Km.Ok (w : World) (K : Km) : Prop where
  own : Rd w K.A1 (K.own.map (Value.int .i64))
  rts : Rd w K.A2 (K.rts.flatMap cRs)
  pts : Rd w K.A3 (K.pts.flatMap cMo)
  crs : Rd w K.A4 (K.crs.flatMap cMo)
  lns : Rd w K.A5 (K.lns.flatMap cLn)
  rss : Rd w K.A6 (K.rss.map (Value.int .i64))
  b1 : K.own.length * 8 ≤ 140737488351232
  b2 : K.rts.length * 32 ≤ 140737488351232
  b3 : K.pts.length * 16 ≤ 140737488351232
  b4 : K.crs.length * 16 ≤ 140737488351232
  b5 : K.lns.length * 64 ≤ 140737488351232
  b6 : K.rss.length * 8 ≤ 140737488351232
theorem Km.Ok.fr {w w1 : World} {K : Km} (h : K.Ok w) (f : Fr (fun _ => False) w w1) : K.Ok w1 :=
  { h with own := h.own.fr f fun _ _ => id, rts := h.rts.fr f fun _ _ => id, pts := h.pts.fr f fun _ _ => id, crs := h.crs.fr f fun _ _ => id, lns := h.lns.fr f fun _ _ => id, rss := h.rss.fr f fun _ _ => id }
/-- a state whose lists are all the call's own, each a memory of its own -/
structure Km.Own (B : Nat) (w : World) (K : Km) : Prop where
  own : w.ownsRow B 3 1 (.slice K.A1 K.own.length K.c1) K.own.length (K.own.map (Value.int .i64))
  rts : w.ownsRow B 87 4 (.slice K.A2 K.rts.length K.c2) K.rts.length (K.rts.flatMap cRs)
  pts : w.ownsRow B 89 2 (.slice K.A3 K.pts.length K.c3) K.pts.length (K.pts.flatMap cMo)
  crs : w.ownsRow B 89 2 (.slice K.A4 K.crs.length K.c4) K.crs.length (K.crs.flatMap cMo)
  lns : w.ownsRow B 49 8 (.slice K.A5 K.lns.length K.c5) K.lns.length (K.lns.flatMap cLn)
  rss : w.ownsRow B 3 1 (.slice K.A6 K.rss.length K.c6) K.rss.length (K.rss.map (Value.int .i64))
  d16 : ∀ k, blk K.A1 = some k → blk K.A6 ≠ some k
  d34 : ∀ k, blk K.A3 = some k → blk K.A4 ≠ some k
/-- the blocks of a state's lists -/
def Km.at (K : Km) (k : Nat) : Prop := blk K.A1 = some k ∨ blk K.A2 = some k ∨ blk K.A3 = some k ∨ blk K.A4 = some k ∨ blk K.A5 = some k ∨ blk K.A6 = some k
theorem own_blk (A : Option Addr) (n c : Nat) : (Value.slice A n c).ownBlock = blk A := by cases A <;> rfl
theorem Km.Own.lt {B : Nat} {w : World} {K : Km} (h : K.Own B w) (k : Nat) (hk : K.at k) : B ≤ k ∧ k < w.heap.size := by
  rcases hk with e | e | e | e | e | e
  · exact h.own.lt k (by rw [own_blk]; exact e)
  · exact h.rts.lt k (by rw [own_blk]; exact e)
  · exact h.pts.lt k (by rw [own_blk]; exact e)
  · exact h.crs.lt k (by rw [own_blk]; exact e)
  · exact h.lns.lt k (by rw [own_blk]; exact e)
  · exact h.rss.lt k (by rw [own_blk]; exact e)
theorem Km.Own.fr {S : Nat → Prop} {B : Nat} {w w1 : World} {K : Km} (h : K.Own B w) (f : Fr S w w1) (hn : ∀ k, K.at k → ¬ S k) : K.Own B w1 :=
  { h with
    own := wide_fr h.own f fun k hk => hn k (by rw [own_blk] at hk; exact .inl hk)
    rts := wide_fr h.rts f fun k hk => hn k (by rw [own_blk] at hk; exact .inr (.inl hk))
    pts := wide_fr h.pts f fun k hk => hn k (by rw [own_blk] at hk; exact .inr (.inr (.inl hk)))
    crs := wide_fr h.crs f fun k hk => hn k (by rw [own_blk] at hk; exact .inr (.inr (.inr (.inl hk))))
    lns := wide_fr h.lns f fun k hk => hn k (by rw [own_blk] at hk; exact .inr (.inr (.inr (.inr (.inl hk)))))
    rss := wide_fr h.rss f fun k hk => hn k (by rw [own_blk] at hk; exact .inr (.inr (.inr (.inr (.inr hk))))) }
theorem own_base {w : World} {e : TypeId} {B B' size n : Nat} {v : Value} {xs : List Value} (h : w.ownsRow B e size v n xs) (hb : B' ≤ B) : w.ownsRow B' e size v n xs := by
  refine ⟨h.1, ?_⟩
  rcases h.2 with k | ⟨g, cap, cur, hv, hB, r⟩
  · exact .inl k
  · exact .inr ⟨g, cap, cur, hv, Nat.le_trans hb hB, r⟩
theorem Km.Own.base {B B' : Nat} {w : World} {K : Km} (h : K.Own B w) (hb : B' ≤ B) : K.Own B' w :=
  { h with own := own_base h.own hb, rts := own_base h.rts hb, pts := own_base h.pts hb, crs := own_base h.crs hb, lns := own_base h.lns hb, rss := own_base h.rss hb }
theorem Km.Own.ok {B : Nat} {w : World} {K : Km} (h : K.Own B w) (b1 : K.own.length * 8 ≤ 140737488351232) (b2 : K.rts.length * 32 ≤ 140737488351232) (b3 : K.pts.length * 16 ≤ 140737488351232) (b4 : K.crs.length * 16 ≤ 140737488351232) (b5 : K.lns.length * 64 ≤ 140737488351232) (b6 : K.rss.length * 8 ≤ 140737488351232) : K.Ok w :=
  ⟨wide_rd h.own, wide_rd h.rts, wide_rd h.pts, wide_rd h.crs, wide_rd h.lns, wide_rd h.rss, b1, b2, b3, b4, b5, b6⟩
theorem own_mem {w : World} {B n s c : Nat} {e : TypeId} {A : Option Addr} {xs : List Value} (h : w.ownsRow B e s (.slice A n c) n xs) {k : Nat} (hk : blk A = some k) : ∃ cur, w.heap[k]? = some (.cells cur e (0, 0)) := by
  rcases h.2 with ⟨hv, _⟩ | ⟨g, cap, cur, hv, _, hg, _⟩
  · injection hv with hv
    rw [hv] at hk
    cases hk
  · injection hv with hv
    rw [hv] at hk
    have : g = k := by simpa [blk] using hk
    subst this
    exact ⟨cur, hg⟩
theorem Km.Own.ne_is {B b : Nat} {w : World} {K : Km} {t : TypeId} {cs : Array Value} (h : K.Own B w) (k : Is w b t cs) (h1 : 3 ≠ t) (h2 : 87 ≠ t) (h3 : 89 ≠ t) (h4 : 49 ≠ t) : ¬ K.at b := by
  intro hk
  rcases hk with e | e | e | e | e | e
  · exact wide_is_ne h.own k h1 (by rw [own_blk]; exact e)
  · exact wide_is_ne h.rts k h2 (by rw [own_blk]; exact e)
  · exact wide_is_ne h.pts k h3 (by rw [own_blk]; exact e)
  · exact wide_is_ne h.crs k h3 (by rw [own_blk]; exact e)
  · exact wide_is_ne h.lns k h4 (by rw [own_blk]; exact e)
  · exact wide_is_ne h.rss k h1 (by rw [own_blk]; exact e)

/-! ### One thing of a state is stored -/
section
variable {B : Nat} {w : World} {K : Km}
theorem far {S : Nat → Prop} {g : Nat} (i : Nat) (u : Value) (hs : S g) : Fr S w (w.setCell ⟨g, i, none⟩ u) := (Fr.refl S w).setCell (p := ⟨g, i, none⟩) (.inl hs) u
theorem two_types {n s c n' s' c' : Nat} {e e' : TypeId} {A A' : Option Addr} {xs ys : List Value} (h : w.ownsRow B e s (.slice A n c) n xs) (h' : w.ownsRow B e' s' (.slice A' n' c') n' ys) (he : e ≠ e') {k : Nat} (hk : blk A = some k) : blk A' ≠ some k := by
  intro hk'
  obtain ⟨_, e1⟩ := own_mem h hk
  obtain ⟨_, e2⟩ := own_mem h' hk'
  rw [e1] at e2
  injection e2 with e2
  injection e2 with _ e2
  exact he e2
theorem Km.Own.set1 (h : K.Own B w) {j : Nat} (hj : j < K.own.length) (x : Int) : ∃ g, K.A1 = some ⟨g, 0, none⟩ ∧ B ≤ g ∧ g < w.heap.size ∧ w.cell? ⟨g, j, none⟩ = some (.int .i64 K.own[j]) ∧ w.frozen? ⟨g, j, none⟩ = false ∧
    ({ K with own := K.own.set j x } : Km).Own B (w.setCell ⟨g, j, none⟩ (.int .i64 x)) := by
  obtain ⟨g, hA, hb, hg⟩ := own_some h.own (by omega)
  have ho := h.own
  rw [hA] at ho
  have hs := (ho.stored j (.int .i64 x)).1
  have hk : blk K.A1 = some g := by rw [hA]; rfl
  have f : Fr (fun k => k = g) w (w.setCell ⟨g, j, none⟩ (.int .i64 x)) := far _ _ rfl
  refine ⟨g, hA, hb, hg, ?_, ho.frozenAt j, ?_⟩
  · rw [ho.cellAt j (by omega), List.getElem?_map, List.getElem?_eq_getElem hj]; rfl
  · refine { own := ?_, rts := ?_, pts := ?_, crs := ?_, lns := ?_, rss := ?_, d16 := h.d16, d34 := h.d34 }
    · show (w.setCell _ _).ownsRow B _ 1 (.slice K.A1 (K.own.set j x).length K.c1) (K.own.set j x).length ((K.own.set j x).map (Value.int .i64))
      rw [List.length_set, List.map_set, hA]; exact hs
    · exact wide_fr h.rts f fun k e => by rw [own_blk] at e; rintro rfl; exact two_types h.own h.rts (by decide) hk e
    · exact wide_fr h.pts f fun k e => by rw [own_blk] at e; rintro rfl; exact two_types h.own h.pts (by decide) hk e
    · exact wide_fr h.crs f fun k e => by rw [own_blk] at e; rintro rfl; exact two_types h.own h.crs (by decide) hk e
    · exact wide_fr h.lns f fun k e => by rw [own_blk] at e; rintro rfl; exact two_types h.own h.lns (by decide) hk e
    · exact wide_fr h.rss f fun k e => by rw [own_blk] at e; rintro rfl; exact h.d16 k hk e
theorem Km.Own.set6 (h : K.Own B w) {j : Nat} (hj : j < K.rss.length) (x : Int) : ∃ g, K.A6 = some ⟨g, 0, none⟩ ∧ B ≤ g ∧ g < w.heap.size ∧ w.cell? ⟨g, j, none⟩ = some (.int .i64 K.rss[j]) ∧ w.frozen? ⟨g, j, none⟩ = false ∧
    ({ K with rss := K.rss.set j x } : Km).Own B (w.setCell ⟨g, j, none⟩ (.int .i64 x)) := by
  obtain ⟨g, hA, hb, hg⟩ := own_some h.rss (by omega)
  have ho := h.rss
  rw [hA] at ho
  have hs := (ho.stored j (.int .i64 x)).1
  have hk : blk K.A6 = some g := by rw [hA]; rfl
  have f : Fr (fun k => k = g) w (w.setCell ⟨g, j, none⟩ (.int .i64 x)) := far _ _ rfl
  refine ⟨g, hA, hb, hg, ?_, ho.frozenAt j, ?_⟩
  · rw [ho.cellAt j (by omega), List.getElem?_map, List.getElem?_eq_getElem hj]; rfl
  · refine { own := ?_, rts := ?_, pts := ?_, crs := ?_, lns := ?_, rss := ?_, d16 := h.d16, d34 := h.d34 }
    · exact wide_fr h.own f fun k e => by rw [own_blk] at e; rintro rfl; exact h.d16 k e hk
    · exact wide_fr h.rts f fun k e => by rw [own_blk] at e; rintro rfl; exact two_types h.rss h.rts (by decide) hk e
    · exact wide_fr h.pts f fun k e => by rw [own_blk] at e; rintro rfl; exact two_types h.rss h.pts (by decide) hk e
    · exact wide_fr h.crs f fun k e => by rw [own_blk] at e; rintro rfl; exact two_types h.rss h.crs (by decide) hk e
    · exact wide_fr h.lns f fun k e => by rw [own_blk] at e; rintro rfl; exact two_types h.rss h.lns (by decide) hk e
    · show (w.setCell _ _).ownsRow B _ 1 (.slice K.A6 (K.rss.set j x).length K.c6) (K.rss.set j x).length ((K.rss.set j x).map (Value.int .i64))
      rw [List.length_set, List.map_set, hA]; exact hs
theorem Km.Own.set2 (h : K.Own B w) {j k : Nat} (hj : j < K.rts.length) (hk4 : k < 4) (x : Int) (a' : Rs) (ha : cRs a' = (cRs K.rts[j]).set k (.int .i64 x)) : ∃ g, K.A2 = some ⟨g, 0, none⟩ ∧ B ≤ g ∧ g < w.heap.size ∧ (w.cell? ⟨g, j * 4 + k, none⟩).isSome = true ∧ w.frozen? ⟨g, j * 4 + k, none⟩ = false ∧
    ({ K with rts := K.rts.set j a' } : Km).Own B (w.setCell ⟨g, j * 4 + k, none⟩ (.int .i64 x)) := by
  obtain ⟨g, hA, hb, hg⟩ := own_some h.rts (by omega)
  have ho := h.rts
  rw [hA] at ho
  have hs := own_set cRs cRs_len ho hj hk4 (.int .i64 x) a' ha
  have hk : blk K.A2 = some g := by rw [hA]; rfl
  have f : Fr (fun k => k = g) w (w.setCell ⟨g, j * 4 + k, none⟩ (.int .i64 x)) := far _ _ rfl
  refine ⟨g, hA, hb, hg, ?_, ho.frozenAt _, ?_⟩
  · rw [ho.cellAt (j * 4 + k) (by omega), flat_get cRs cRs_len _ j hj k hk4, List.getElem?_eq_getElem (by rw [cRs_len]; exact hk4)]; rfl
  · refine { own := ?_, rts := ?_, pts := ?_, crs := ?_, lns := ?_, rss := ?_, d16 := h.d16, d34 := h.d34 }
    · exact wide_fr h.own f fun k e => by rw [own_blk] at e; rintro rfl; exact two_types h.rts h.own (by decide) hk e
    · show (w.setCell _ _).ownsRow B _ 4 (.slice K.A2 (K.rts.set j a').length K.c2) (K.rts.set j a').length ((K.rts.set j a').flatMap cRs)
      rw [List.length_set, hA]; exact hs
    · exact wide_fr h.pts f fun k e => by rw [own_blk] at e; rintro rfl; exact two_types h.rts h.pts (by decide) hk e
    · exact wide_fr h.crs f fun k e => by rw [own_blk] at e; rintro rfl; exact two_types h.rts h.crs (by decide) hk e
    · exact wide_fr h.lns f fun k e => by rw [own_blk] at e; rintro rfl; exact two_types h.rts h.lns (by decide) hk e
    · exact wide_fr h.rss f fun k e => by rw [own_blk] at e; rintro rfl; exact two_types h.rts h.rss (by decide) hk e
theorem Km.Own.set3 (h : K.Own B w) {j k : Nat} (hj : j < K.pts.length) (hk4 : k < 2) (x : Int) (a' : Mo) (ha : cMo a' = (cMo K.pts[j]).set k (.int .i64 x)) : ∃ g, K.A3 = some ⟨g, 0, none⟩ ∧ B ≤ g ∧ g < w.heap.size ∧ (w.cell? ⟨g, j * 2 + k, none⟩).isSome = true ∧ w.frozen? ⟨g, j * 2 + k, none⟩ = false ∧
    ({ K with pts := K.pts.set j a' } : Km).Own B (w.setCell ⟨g, j * 2 + k, none⟩ (.int .i64 x)) := by
  obtain ⟨g, hA, hb, hg⟩ := own_some h.pts (by omega)
  have ho := h.pts
  rw [hA] at ho
  have hs := own_set cMo cMo_len ho hj hk4 (.int .i64 x) a' ha
  have hk : blk K.A3 = some g := by rw [hA]; rfl
  have f : Fr (fun k => k = g) w (w.setCell ⟨g, j * 2 + k, none⟩ (.int .i64 x)) := far _ _ rfl
  refine ⟨g, hA, hb, hg, ?_, ho.frozenAt _, ?_⟩
  · rw [ho.cellAt (j * 2 + k) (by omega), flat_get cMo cMo_len _ j hj k hk4, List.getElem?_eq_getElem (by rw [cMo_len]; exact hk4)]; rfl
  · refine { own := ?_, rts := ?_, pts := ?_, crs := ?_, lns := ?_, rss := ?_, d16 := h.d16, d34 := h.d34 }
    · exact wide_fr h.own f fun k e => by rw [own_blk] at e; rintro rfl; exact two_types h.pts h.own (by decide) hk e
    · exact wide_fr h.rts f fun k e => by rw [own_blk] at e; rintro rfl; exact two_types h.pts h.rts (by decide) hk e
    · show (w.setCell _ _).ownsRow B _ 2 (.slice K.A3 (K.pts.set j a').length K.c3) (K.pts.set j a').length ((K.pts.set j a').flatMap cMo)
      rw [List.length_set, hA]; exact hs
    · exact wide_fr h.crs f fun k e => by rw [own_blk] at e; rintro rfl; exact h.d34 k hk e
    · exact wide_fr h.lns f fun k e => by rw [own_blk] at e; rintro rfl; exact two_types h.pts h.lns (by decide) hk e
    · exact wide_fr h.rss f fun k e => by rw [own_blk] at e; rintro rfl; exact two_types h.pts h.rss (by decide) hk e
theorem Km.Own.set4 (h : K.Own B w) {j k : Nat} (hj : j < K.crs.length) (hk4 : k < 2) (x : Int) (a' : Mo) (ha : cMo a' = (cMo K.crs[j]).set k (.int .i64 x)) : ∃ g, K.A4 = some ⟨g, 0, none⟩ ∧ B ≤ g ∧ g < w.heap.size ∧ (w.cell? ⟨g, j * 2 + k, none⟩).isSome = true ∧ w.frozen? ⟨g, j * 2 + k, none⟩ = false ∧
    ({ K with crs := K.crs.set j a' } : Km).Own B (w.setCell ⟨g, j * 2 + k, none⟩ (.int .i64 x)) := by
  obtain ⟨g, hA, hb, hg⟩ := own_some h.crs (by omega)
  have ho := h.crs
  rw [hA] at ho
  have hs := own_set cMo cMo_len ho hj hk4 (.int .i64 x) a' ha
  have hk : blk K.A4 = some g := by rw [hA]; rfl
  have f : Fr (fun k => k = g) w (w.setCell ⟨g, j * 2 + k, none⟩ (.int .i64 x)) := far _ _ rfl
  refine ⟨g, hA, hb, hg, ?_, ho.frozenAt _, ?_⟩
  · rw [ho.cellAt (j * 2 + k) (by omega), flat_get cMo cMo_len _ j hj k hk4, List.getElem?_eq_getElem (by rw [cMo_len]; exact hk4)]; rfl
  · refine { own := ?_, rts := ?_, pts := ?_, crs := ?_, lns := ?_, rss := ?_, d16 := h.d16, d34 := h.d34 }
    · exact wide_fr h.own f fun k e => by rw [own_blk] at e; rintro rfl; exact two_types h.crs h.own (by decide) hk e
    · exact wide_fr h.rts f fun k e => by rw [own_blk] at e; rintro rfl; exact two_types h.crs h.rts (by decide) hk e
    · exact wide_fr h.pts f fun k e => by rw [own_blk] at e; rintro rfl; exact h.d34 k e hk
    · show (w.setCell _ _).ownsRow B _ 2 (.slice K.A4 (K.crs.set j a').length K.c4) (K.crs.set j a').length ((K.crs.set j a').flatMap cMo)
      rw [List.length_set, hA]; exact hs
    · exact wide_fr h.lns f fun k e => by rw [own_blk] at e; rintro rfl; exact two_types h.crs h.lns (by decide) hk e
    · exact wide_fr h.rss f fun k e => by rw [own_blk] at e; rintro rfl; exact two_types h.crs h.rss (by decide) hk e
theorem Km.Own.set5 (h : K.Own B w) {j k : Nat} (hj : j < K.lns.length) (hk4 : k < 8) (x : Int) (a' : Ln) (ha : cLn a' = (cLn K.lns[j]).set k (.int .i64 x)) : ∃ g, K.A5 = some ⟨g, 0, none⟩ ∧ B ≤ g ∧ g < w.heap.size ∧ (w.cell? ⟨g, j * 8 + k, none⟩).isSome = true ∧ w.frozen? ⟨g, j * 8 + k, none⟩ = false ∧
    ({ K with lns := K.lns.set j a' } : Km).Own B (w.setCell ⟨g, j * 8 + k, none⟩ (.int .i64 x)) := by
  obtain ⟨g, hA, hb, hg⟩ := own_some h.lns (by omega)
  have ho := h.lns
  rw [hA] at ho
  have hs := own_set cLn cLn_len ho hj hk4 (.int .i64 x) a' ha
  have hk : blk K.A5 = some g := by rw [hA]; rfl
  have f : Fr (fun k => k = g) w (w.setCell ⟨g, j * 8 + k, none⟩ (.int .i64 x)) := far _ _ rfl
  refine ⟨g, hA, hb, hg, ?_, ho.frozenAt _, ?_⟩
  · rw [ho.cellAt (j * 8 + k) (by omega), flat_get cLn cLn_len _ j hj k hk4, List.getElem?_eq_getElem (by rw [cLn_len]; exact hk4)]; rfl
  · refine { own := ?_, rts := ?_, pts := ?_, crs := ?_, lns := ?_, rss := ?_, d16 := h.d16, d34 := h.d34 }
    · exact wide_fr h.own f fun k e => by rw [own_blk] at e; rintro rfl; exact two_types h.lns h.own (by decide) hk e
    · exact wide_fr h.rts f fun k e => by rw [own_blk] at e; rintro rfl; exact two_types h.lns h.rts (by decide) hk e
    · exact wide_fr h.pts f fun k e => by rw [own_blk] at e; rintro rfl; exact two_types h.lns h.pts (by decide) hk e
    · exact wide_fr h.crs f fun k e => by rw [own_blk] at e; rintro rfl; exact two_types h.lns h.crs (by decide) hk e
    · show (w.setCell _ _).ownsRow B _ 8 (.slice K.A5 (K.lns.set j a').length K.c5) (K.lns.set j a').length ((K.lns.set j a').flatMap cLn)
      rw [List.length_set, hA]; exact hs
    · exact wide_fr h.rss f fun k e => by rw [own_blk] at e; rintro rfl; exact two_types h.lns h.rss (by decide) hk e
end
end Go.Proofs.Ytnnacdkijeoeoaa.Lk

/- Contracts and plain mathematics of earlier stages: Tidx, Teach, Tof, Ths, Trefsh. -/
import Derived.Test.YtfmhfngilimhjaaTe
import Derived.Test.YtfmhfngilimhjaaTc
namespace Go.Proofs.Ytfmhfngilimhjaa.Te
open Go.RowKit

theorem idx_mem {α : Type} (f : α → Bool) : ∀ (l : List α) (n : Nat) (x : Int), x ∈ idx f n l ↔ ∃ (k : Nat) (h : k < l.length), x = ((n + k : Nat) : Int) ∧ f l[k] = true
  | [], n, x => by simp [idx]
  | y :: l, n, x => by
    have ih := idx_mem f l (n + 1) x
    have e : idx f n (y :: l) = if f y = true then (n : Int) :: idx f (n + 1) l else idx f (n + 1) l := rfl
    rw [e]
    constructor
    · intro h
      by_cases hy : f y = true
      · rw [if_pos hy] at h
        rcases List.mem_cons.1 h with h | h
        · exact ⟨0, by simp, by rw [h]; rfl, hy⟩
        · obtain ⟨k, hk, e1, e2⟩ := ih.1 h
          exact ⟨k + 1, by simpa using hk, by rw [e1]; congr 1; omega, by simpa using e2⟩
      · rw [if_neg hy] at h
        obtain ⟨k, hk, e1, e2⟩ := ih.1 h
        exact ⟨k + 1, by simpa using hk, by rw [e1]; congr 1; omega, by simpa using e2⟩
    · rintro ⟨k, hk, e1, e2⟩
      rcases k with _ | k
      · have hy : f y = true := e2
        rw [if_pos hy, e1]
        exact List.mem_cons_self
      · have hm : x ∈ idx f (n + 1) l := ih.2 ⟨k, by simpa using hk, by rw [e1]; congr 1; omega, by simpa using e2⟩
        split
        · exact List.mem_cons_of_mem _ hm
        · exact hm
theorem idx_nodup {α : Type} (f : α → Bool) : ∀ (l : List α) (n : Nat), (idx f n l).Nodup
  | [], _ => List.nodup_nil
  | y :: l, n => by
    have e : idx f n (y :: l) = if f y = true then (n : Int) :: idx f (n + 1) l else idx f (n + 1) l := rfl
    rw [e]
    split
    · refine List.nodup_cons.2 ⟨fun h => ?_, idx_nodup f l _⟩
      obtain ⟨k, _, e1, _⟩ := (idx_mem f l (n + 1) _).1 h
      omega
    · exact idx_nodup f l _

/-- one, if a controller ahead of j has it -/
def cnt (oc : Int) (j : Nat) : Int := if 0 ≤ oc ∧ oc < (j : Int) then 1 else 0
def seenL (l : List Sec) (j : Nat) (L : List Int) : List Int := (List.range l.length).map fun s => cnt (l.getD s default).oc j + if ((s : Nat) : Int) ∈ L then 1 else 0
theorem seen_len (l : List Sec) (j : Nat) (L : List Int) : (seenL l j L).length = l.length := by simp [seenL]
theorem seen_at {l : List Sec} (j : Nat) (L : List Int) {s : Nat} (h : s < l.length) : (seenL l j L)[s]? = some (cnt l[s].oc j + if ((s : Nat) : Int) ∈ L then 1 else 0) := by
  unfold seenL
  rw [List.getElem?_map, List.getElem?_range h]
  simp [List.getD_eq_getElem?_getD, List.getElem?_eq_getElem h]
theorem seen_zero (l : List Sec) : seenL l 0 [] = List.replicate l.length 0 := by
  apply List.ext_getElem?
  intro s
  by_cases h : s < l.length
  · rw [seen_at 0 [] h, List.getElem?_replicate, if_pos h]
    unfold cnt
    rw [if_neg (by omega)]
    simp
  · rw [List.getElem?_eq_none (by rw [seen_len]; omega), List.getElem?_eq_none (by simp; omega)]
theorem seen_set {l : List Sec} {j : Nat} {L : List Int} {k : Nat} (h : k < l.length) (ho : l[k].oc = (j : Int)) : (seenL l j L).set k 1 = seenL l j (L ++ [((k : Nat) : Int)]) := by
  apply List.ext_getElem?
  intro s
  rw [List.getElem?_set]
  by_cases hs : k = s
  · subst hs
    rw [if_pos rfl, if_pos (by rw [seen_len]; exact h), seen_at j _ h]
    unfold cnt
    rw [if_neg (by omega), if_pos (by simp)]
    rfl
  · rw [if_neg hs]
    by_cases hl : s < l.length
    · rw [seen_at j _ hl, seen_at j _ hl]
      have : (((s : Nat) : Int) ∈ L ++ [((k : Nat) : Int)]) ↔ ((s : Nat) : Int) ∈ L := by
        rw [List.mem_append, List.mem_singleton]
        constructor
        · rintro (h | h)
          · exact h
          · omega
        · exact .inl
      simp only [this]
    · rw [List.getElem?_eq_none (by rw [seen_len]; omega), List.getElem?_eq_none (by rw [seen_len]; omega)]
theorem seen_here {l : List Sec} {j : Nat} {L : List Int} {k : Nat} (h : k < l.length) (ho : l[k].oc = (j : Int)) (hn : ((k : Nat) : Int) ∉ L) : (seenL l j L)[k]? = some 0 := by
  rw [seen_at j L h, if_neg hn]
  unfold cnt
  rw [if_neg (by omega)]
  rfl
theorem seen_next (l : List Sec) (j : Nat) : seenL l j (idx (inB (j : Int)) 0 l) = seenL l (j + 1) [] := by
  apply List.ext_getElem?
  intro s
  by_cases h : s < l.length
  · rw [seen_at j _ h, seen_at (j + 1) _ h]
    have hm : ((s : Nat) : Int) ∈ idx (inB (j : Int)) 0 l ↔ l[s].oc = (j : Int) := by
      rw [idx_mem]
      constructor
      · rintro ⟨k, hk, e1, e2⟩
        have : k = s := by omega
        subst this
        simpa [inB] using e2
      · intro e
        exact ⟨s, h, by omega, by simpa [inB] using e⟩
    unfold cnt
    by_cases e : l[s].oc = (j : Int)
    · rw [if_pos (hm.2 e), if_neg (by omega), if_pos (by omega)]
      simp
    · rw [if_neg (fun k => e (hm.1 k))]
      by_cases g : 0 ≤ l[s].oc ∧ l[s].oc < (j : Int)
      · rw [if_pos g, if_pos (by omega)]
        simp
      · rw [if_neg g, if_neg (by omega)]
        simp
  · rw [List.getElem?_eq_none (by rw [seen_len]; omega), List.getElem?_eq_none (by rw [seen_len]; omega)]

def sumN (f : Nat → Nat) : Nat → Nat
  | 0 => 0
  | j + 1 => sumN f j + f j
theorem sumN_le {f : Nat → Nat} {b : Nat} (h : ∀ k, f k ≤ b) : ∀ j, sumN f j ≤ j * b
  | 0 => by simp [sumN]
  | j + 1 => by
    have := sumN_le h j
    have := h j
    rw [sumN, Nat.add_mul]
    omega
theorem sum_four {α : Type} (o : α → Int) (f : α → Bool) (g : Nat → α → Bool) (l : List α) (hg : ∀ (k : Nat) x, g k x = (decide (o x = (k : Int)) && f x)) : sumN (fun k => (idx (g k) 0 l).length) 4 = (l.filter fun x => (decide (0 ≤ o x) && decide (o x < 4)) && f x).length := by
  rw [← four o f l]
  simp only [sumN, idx_len]
  have e : ∀ k : Nat, g k = fun x => decide (o x = (k : Int)) && f x := fun k => funext (hg k)
  rw [e 0, e 1, e 2, e 3]
  simp
theorem sum_le {α : Type} (o : α → Int) (f : α → Bool) (g : Nat → α → Bool) (l : List α) (hg : ∀ (k : Nat) x, g k x = (decide (o x = (k : Int)) && f x)) : sumN (fun k => (idx (g k) 0 l).length) 4 ≤ l.length := by
  rw [sum_four o f g l hg]
  exact List.length_filter_le _ _
/-- the controller of a section that there is -/
def ocAt (l : List Sec) (n : Int) : Int := match l[n.toNat]? with | some s => s.oc | none => -1
def thereB (l : List Sec) (n : Int) : Bool := decide (0 ≤ n) && (l[n.toNat]?).isSome
theorem has_split (l : List Sec) (k : Nat) (n : Int) : hasB l (k : Int) n = (decide (ocAt l n = (k : Int)) && thereB l n) := by
  unfold hasB ocAt thereB
  cases l[n.toNat]? with
  | none => simp
  | some s =>
    simp only [Option.isSome_some, Bool.and_true]
    rw [Bool.and_comm]
/-- how many of the first so many sections are points of the controllers 0 to 3 -/
def wantB (s : Sec) : Bool := (decide (0 ≤ s.oc) && decide (s.oc < 4)) && decide (s.kind = 1)
end Go.Proofs.Ytfmhfngilimhjaa.Te

namespace Go.Proofs.Ytfmhfngilimhjaa.Te
open Go.RowKit

def Cf.arr (C : Cf) : Array Value := #[.slice C.A1 C.l.length C.c1, .slice C.A2 C.n2 C.c2, .slice C.A3 C.sg.length C.c3, .slice C.A4 C.cr.length C.c4, .slice C.A5 C.n5 C.c5, .int .i64 C.t.age, .int .i64 C.t.brake, .int .i64 C.t.hold, .int .i64 C.t.budget]
theorem nine_cells {w : World} {b : Nat} {t : TypeId} {a0 a1 a2 a3 a4 a5 a6 a7 a8 : Value} (h : Is w b t #[a0, a1, a2, a3, a4, a5, a6, a7, a8]) : w.cell? ⟨b, 0, none⟩ = some a0 ∧ w.cell? ⟨b, 1, none⟩ = some a1 ∧ w.cell? ⟨b, 2, none⟩ = some a2 ∧ w.cell? ⟨b, 3, none⟩ = some a3 ∧ w.cell? ⟨b, 4, none⟩ = some a4 ∧ w.cell? ⟨b, 5, none⟩ = some a5 ∧ w.cell? ⟨b, 6, none⟩ = some a6 ∧ w.cell? ⟨b, 7, none⟩ = some a7 ∧ w.cell? ⟨b, 8, none⟩ = some a8 :=
  ⟨(h.cell 0).trans rfl, (h.cell 1).trans rfl, (h.cell 2).trans rfl, (h.cell 3).trans rfl, (h.cell 4).trans rfl, (h.cell 5).trans rfl, (h.cell 6).trans rfl, (h.cell 7).trans rfl, (h.cell 8).trans rfl⟩

theorem nodup_take {l : List Int} (h : l.Nodup) {i : Nat} (hi : i < l.length) : l[i] ∉ l.take i := by
  have e : l = l.take i ++ l[i] :: l.drop (i + 1) := by rw [← List.drop_eq_getElem_cons hi, List.take_append_drop]
  rw [e] at h
  intro hm
  exact (List.nodup_append.1 h).2.2 _ hm _ List.mem_cons_self rfl
end Go.Proofs.Ytfmhfngilimhjaa.Te

namespace Go.Proofs.Ytfmhfngilimhjaa.Te
open Go.RowKit

set_option maxRecDepth 100000 in
theorem of_any {C : Cf} {w : World} (hC : C.Ok w) (n oc : Int) :
    Calls Try.prog 38 #[C.val, .int .i64 n, .int .i64 oc] w fun e w' => e = .returned (.bool (hasB C.l oc n)) ∧ Fr (fun _ => False) w w' := by
  have hb1 := hC.b1
  have fb := (Fr.refl (fun _ => False) w).alloc (.cells C.arr 30)
  have ih : Is (w.alloc (.cells C.arr 30)) w.heap.size 30 C.arr := Is.new _ _ _
  have hC0 := (hC.fr fb).secs
  have hl9 : (C.l.length : Int) ≤ 17592186044416 := by omega
  have HFB := Lib.hid fb
  clear hC hb1 fb
  obtain ⟨A1, c1, l, A2, n2, c2, A3, c3, sg, A4, c4, cr, A5, n5, c5, ⟨ta, tb, th, tu⟩⟩ := C
  unfold Cf.val Cf.cells Cf.arr at *
  simp only at *
  have HIH := Lib.hid ih
  obtain ⟨p0, p1, p2, p3, p4, p5, p6, p7, p8⟩ := nine_cells ih
  clear ih
  unfold hasB
  by_cases h0 : 0 ≤ n
  · obtain ⟨m, rfl⟩ : ∃ m : Nat, n = m := ⟨n.toNat, by omega⟩
    have d1 : decide (0 ≤ (m : Int)) = true := by simp
    rw [Int.toNat_natCast, d1, Bool.true_and]
    by_cases h1 : m < l.length
    · obtain ⟨g, o, rfl, _, q0, q1, q2⟩ := rd_sec hC0 h1
      rw [List.getElem?_eq_getElem h1]
      simp only
      have b1 : (m : Int) < (l.length : Int) := by omega
      generalize l[m] = x at *
      by_cases h2 : x.oc = oc
      · have e1 : (x.oc == oc) = true := by simpa using h2
        rw [show decide (x.oc = oc) = true by simpa using h2]
        clear h2 hC0 h0
        go_enter Try.func38, Try.ntmps38
        go_wp2_with fail
        go_ret
        exact ⟨rfl, HFB.out⟩
      · have e1 : (x.oc == oc) = false := by simpa using h2
        rw [show decide (x.oc = oc) = false by simpa using h2]
        clear h2 hC0 h0
        go_enter Try.func38, Try.ntmps38
        go_wp2_with fail
        go_ret
        exact ⟨rfl, HFB.out⟩
    · rw [List.getElem?_eq_none (by omega)]
      have b1 : ¬ (m : Int) < (l.length : Int) := by omega
      clear hC0 h0
      go_enter Try.func38, Try.ntmps38
      go_wp2_with fail
      go_ret
      exact ⟨rfl, HFB.out⟩
  · have d1 : decide (0 ≤ n) = false := by simpa using h0
    rw [d1, Bool.false_and]
    clear hC0
    go_enter Try.func38, Try.ntmps38
    go_wp2_with fail
    go_ret
    exact ⟨rfl, HFB.out⟩
end Go.Proofs.Ytfmhfngilimhjaa.Te

namespace Go.Proofs.Ytfmhfngilimhjaa.Te
open Go.RowKit

structure Gr (w : World) (h base : Nat) (xs : List L3) : Prop where
  is : Is w h 33 (xs.map L3.val).toArray
  own : ∀ (i : Nat) x, xs[i]? = some x → w.ownsRow base 3 1 x.val x.l.length (x.l.map (Value.int .i64))
  ne : ∀ (i j : Nat) x y, i ≠ j → xs[i]? = some x → xs[j]? = some y → ∀ k, x.val.ownBlock = some k → y.val.ownBlock ≠ some k
theorem Gr.fr {w w1 : World} {h base : Nat} {xs : List L3} (H : Gr w h base xs) (f : Fr (fun _ => False) w w1) : Gr w1 h base xs :=
  ⟨H.is.fr f id, fun i x hx => wide_fr (H.own i x hx) f fun _ _ => id, H.ne⟩
theorem Gr.far {w : World} {h base : Nat} {xs : List L3} (H : Gr w h base xs) {i : Nat} {x : L3} (hi : xs[i]? = some x) : x.val.ownBlock ≠ some h :=
  wide_is_ne (H.own i x hi) H.is (by decide)
/-- one of the four grows by a number -/
theorem Gr.put {W w5 : World} {h base : Nat} {xs : List L3} (H : Gr W h base xs) {i : Nat} {x : L3} (hi : xs[i]? = some x) {n : Int} {A : Option Addr} {c : Nat}
    (hown : w5.ownsRow base 3 1 (.slice A (x.l.length + 1) c) (x.l.length + 1) (x.l.map (Value.int .i64) ++ [.int .i64 n])) (hg : W.grownBy w5 x.val.ownBlock)
    (hat : (Value.slice A (x.l.length + 1) c).ownBlock = x.val.ownBlock ∨ (Value.slice A (x.l.length + 1) c).ownBlock = some W.heap.size) :
    Gr (w5.setCell ⟨h, i, none⟩ (.slice A (x.l.length + 1) c)) h base (xs.set i ⟨A, x.l ++ [n], c⟩) ∧ Is w5 h 33 (xs.map L3.val).toArray ∧ Fr (fun k => k = h ∨ x.val.ownBlock = some k) W (w5.setCell ⟨h, i, none⟩ (.slice A (x.l.length + 1) c)) := by
  have f5 : Fr (fun k => x.val.ownBlock = some k) W w5 := (Fr.refl _ _).grown hg fun _ hk => .inl hk
  have is5 : Is w5 h 33 (xs.map L3.val).toArray := H.is.fr f5 (H.far hi)
  have fs : Fr (fun k => k = h) w5 (w5.setCell ⟨h, i, none⟩ (.slice A (x.l.length + 1) c)) := (Fr.refl (fun k => k = h) w5).setCell (p := ⟨h, i, none⟩) (.inl rfl) _
  have hil : i < xs.length := (List.getElem?_eq_some_iff.1 hi).1
  have hlen : (x.l ++ [n]).length = x.l.length + 1 := by simp
  have hv : L3.val ⟨A, x.l ++ [n], c⟩ = .slice A (x.l.length + 1) c := by
    show Value.slice A (x.l ++ [n]).length c = _
    rw [hlen]
  have old : ∀ (j : Nat) y, i ≠ j → xs[j]? = some y → ∀ k, y.val.ownBlock = some k → (Value.slice A (x.l.length + 1) c).ownBlock ≠ some k := by
    intro j y hij hy k hk e
    rcases hat with h1 | h1
    · rw [h1] at e
      exact H.ne i j x y hij hi hy k e hk
    · rw [h1] at e
      have := wide_lt (H.own j y hy) k hk
      injection e with e
      omega
  refine ⟨⟨?_, ?_, ?_⟩, is5, (f5.mono fun _ _ h => .inr h).trans fs fun _ _ h => .inl h⟩
  · have := is5.set i (.slice A (x.l.length + 1) c)
    rw [List.setIfInBounds_toArray] at this
    rw [List.map_set, hv]
    exact this
  · intro j y hy
    by_cases e : i = j
    · subst e
      rw [List.getElem?_set_self hil] at hy
      injection hy with hy
      subst hy
      show World.ownsRow _ _ _ _ (.slice A (x.l ++ [n]).length c) _ _
      rw [hlen, List.map_append]
      exact wide_fr hown fs fun k hk e => wide_is_ne hown is5 (by decide) (e ▸ hk)
    · rw [List.getElem?_set_ne e] at hy
      have o1 := wide_fr (H.own j y hy) f5 fun k hk k2 => H.ne i j x y e hi hy k k2 hk
      exact wide_fr o1 fs fun k hk e => wide_is_ne o1 is5 (by decide) (e ▸ hk)
  · intro a b y z hab ha hb k hk
    by_cases ea : i = a
    · subst ea
      rw [List.getElem?_set_self hil] at ha
      injection ha with ha
      subst ha
      rw [List.getElem?_set_ne hab] at hb
      have hk' : (Value.slice A (x.l.length + 1) c).ownBlock = some k := by rw [← hv]; exact hk
      exact fun hz => old b z hab hb k hz hk'
    · rw [List.getElem?_set_ne ea] at ha
      by_cases eb : i = b
      · subst eb
        rw [List.getElem?_set_self hil] at hb
        injection hb with hb
        subst hb
        rw [hv]
        exact old a y (fun e => hab e.symm) ha k hk
      · rw [List.getElem?_set_ne eb] at hb
        exact H.ne a b y z hab ha hb k hk
end Go.Proofs.Ytfmhfngilimhjaa.Te

namespace Go.Proofs.Ytfmhfngilimhjaa.Te
open Go.RowKit

theorem own_l3b {w : World} {base : Nat} {A : Option Addr} {c : Nat} {L : List Int} (hown : w.ownsRow base 3 1 (.slice A L.length c) L.length (L.map (Value.int .i64))) (hL : L.length ≤ 17592186044416) : (L3.mk A L c).Ok w ∧ ∀ q, blk A = some q → base ≤ q ∧ q < w.heap.size := by
  have hb : ∀ q, blk A = some q → (Value.slice A L.length c).ownBlock = some q := fun q hq => by rw [Row.own]; exact hq
  exact ⟨⟨wide_rd hown, hL, fun _ q hq => (World.ownsRow.lt hown q (hb q hq)).2⟩, fun q hq => World.ownsRow.lt hown q (hb q hq)⟩
theorem two_cells {w : World} {b : Nat} {t : TypeId} {a0 a1 : Value} (h : Is w b t #[a0, a1]) : w.cell? ⟨b, 0, none⟩ = some a0 ∧ w.cell? ⟨b, 1, none⟩ = some a1 := ⟨(h.cell 0).trans rfl, (h.cell 1).trans rfl⟩
theorem gr_new (w : World) (h : Nat) (hh : h = w.heap.size) (base : Nat) : Gr (w.alloc (.cells #[.slice none 0 0, .slice none 0 0, .slice none 0 0, .slice none 0 0] 33)) h base [⟨none, [], 0⟩, ⟨none, [], 0⟩, ⟨none, [], 0⟩, ⟨none, [], 0⟩] := by
  subst hh
  refine ⟨Is.new _ _ _, fun i x hx => ?_, fun i j x y _ hx _ k hk => ?_⟩
  · have : x = ⟨none, [], 0⟩ := by
      have := List.mem_of_getElem? hx
      simpa using this
    subst this
    exact World.ownsRow_nil _ _ _ _
  · have : x = ⟨none, [], 0⟩ := by
      have := List.mem_of_getElem? hx
      simpa using this
    subst this
    cases hk
set_option maxRecDepth 100000 in
set_option maxHeartbeats 4000000 in
theorem refshape_any {C : Cf} {w : World} (hC : C.Ok w) (oc : Int) :
    Calls Try.prog 10 #[C.val, .int .i64 oc] w fun e w' => ∃ x : Sta, e = .returned x.val ∧ x.st = shL C oc ∧ x.Ok w' ∧ x.New w.heap.size ∧ Fr (fun _ => False) w w' := by
  obtain ⟨i0, hi0, hz0, hz1, hz2⟩ := info_parts Try.infoI
  have hb1 := hC.b1
  have hb3 := hC.b3
  have hb4 := hC.b4
  have KO := fun (W : World) (f : Fr (fun _ => False) w W) (n : Int) => of_any (hC.fr f) n oc
  have hl1 : (C.l.length : Int) ≤ 17592186044416 := by omega
  have hl3 : (C.sg.length : Int) ≤ 17592186044416 := by omega
  have hl4 : (C.cr.length : Int) ≤ 17592186044416 := by omega
  have HC := Lib.hid hC
  have G := gr_new ((w.alloc (.cells C.cells.toArray 30)).alloc (.cells #[.slice none 0 0, .slice none 0 0, .slice none 0 0, .slice none 0 0] 33)) (w.heap.size + 1 + 1) (by simp) (w.heap.size + 3)
  have HI : Is (((w.alloc (.cells C.cells.toArray 30)).alloc (.cells #[.slice none 0 0, .slice none 0 0, .slice none 0 0, .slice none 0 0] 33)).alloc (.cells #[.slice none 0 0, .slice none 0 0, .slice none 0 0, .slice none 0 0] 33)) w.heap.size 30 C.cells.toArray := ((Is.new _ _ _).alloc _).alloc _
  have HR : Is (((w.alloc (.cells C.cells.toArray 30)).alloc (.cells #[.slice none 0 0, .slice none 0 0, .slice none 0 0, .slice none 0 0] 33)).alloc (.cells #[.slice none 0 0, .slice none 0 0, .slice none 0 0, .slice none 0 0] 33)) (w.heap.size + 1) 33 #[.slice none 0 0, .slice none 0 0, .slice none 0 0, .slice none 0 0] := by
    have := (Is.new (w.alloc (.cells C.cells.toArray 30)) 33 #[.slice none 0 0, .slice none 0 0, .slice none 0 0, .slice none 0 0]).alloc (.cells #[.slice none 0 0, .slice none 0 0, .slice none 0 0, .slice none 0 0] 33)
    simpa using this
  have FA := ((((Fr.refl (fun _ => False) w).alloc (.cells C.cells.toArray 30)).alloc (.cells #[.slice none 0 0, .slice none 0 0, .slice none 0 0, .slice none 0 0] 33)).alloc (.cells #[.slice none 0 0, .slice none 0 0, .slice none 0 0, .slice none 0 0] 33))
  have HGR := Lib.hid G
  have HIC := Lib.hid HI
  have HRR := Lib.hid HR
  have HFA := Lib.hid FA
  clear G HI HR FA
  have hT : shL C oc = ⟨idx (inB oc) 0 C.l, idx (ptB oc) 0 C.l, idx (hasB C.l oc) 0 C.cr, idx (sgB C.l oc) 0 C.sg⟩ := rfl
  rw [hT]
  clear hT hC hb1 hb3 hb4
  obtain ⟨A1, c1, l, A2, n2, c2, A3, c3, sg, A4, c4, cr, A5, n5, c5, ⟨ta, tb, th, tu⟩⟩ := C
  unfold Cf.val Cf.cells at *
  simp only at *
  go_enter Try.func10, Try.ntmps10
  go_wp2_with fail
  have hz9 : (((w.alloc (.cells #[.slice A1 l.length c1, .slice A2 n2 c2, .slice A3 sg.length c3, .slice A4 cr.length c4, .slice A5 n5 c5, .int .i64 ta, .int .i64 tb, .int .i64 th, .int .i64 tu] 30)).alloc (.cells #[.slice none 0 0, .slice none 0 0, .slice none 0 0, .slice none 0 0] 33)).alloc (.cells #[.slice none 0 0, .slice none 0 0, .slice none 0 0, .slice none 0 0] 33)).heap.size = w.heap.size + 3 := by simp
  generalize ((w.alloc _).alloc _).alloc _ = w0 at *
  go_loopw [15] (fun v15 wr => ∃ (k : Nat) (a b : L3), k ≤ l.length ∧ v15 = .int .i64 (k : Nat) ∧ a.l = idx (inB oc) 0 (l.take k) ∧ b.l = idx (ptB oc) 0 (l.take k) ∧ Gr wr (w.heap.size + 1 + 1) (w.heap.size + 3) [a, b, ⟨none, [], 0⟩, ⟨none, [], 0⟩] ∧ Fr (fun q => q = w.heap.size + 1 + 1) w0 wr) (fun i _ => l.length - (intOf i).toNat)
  case atStart => exact ⟨0, ⟨none, [], 0⟩, ⟨none, [], 0⟩, Nat.zero_le _, rfl, rfl, rfl, HGR.out, Fr.refl _ _⟩
  case round =>
    obtain ⟨k, ⟨A0, L0, d0⟩, ⟨A9, L9, d9⟩, hk, rfl, hL0, hL9, H, F⟩ := hrel
    have Fw : Fr (fun _ => False) w wr := HFA.out.trans F (fun q hq e => by omega)
    by_cases hlt : k < l.length
    · have hLl : L0.length ≤ k := by
        rw [show L0 = _ from hL0]
        exact Nat.le_trans (idx_le _ _ _) (by rw [List.length_take]; omega)
      have hLl9 : L9.length ≤ k := by
        rw [show L9 = _ from hL9]
        exact Nat.le_trans (idx_le _ _ _) (by rw [List.length_take]; omega)
      obtain ⟨g, o, hA, _, q0, q1, q2⟩ := rd_sec (HC.out.fr Fw).secs hlt
      simp only at hA
      subst hA
      have htk : (l.take k).length = k := by rw [List.length_take]; omega
      have hs0 := idx_snoc (inB oc) (l.take k) 0 l[k]
      rw [Nat.zero_add, htk, ← List.take_succ_eq_append_getElem hlt, ← show L0 = _ from hL0] at hs0
      have hs9 := idx_snoc (ptB oc) (l.take k) 0 l[k]
      rw [Nat.zero_add, htk, ← List.take_succ_eq_append_getElem hlt, ← show L9 = _ from hL9] at hs9
      have HS0 := Lib.hid hs0
      have HS9 := Lib.hid hs9
      have H2 := H.fr ((Fr.refl (fun _ => False) wr).alloc (.cells #[.int .i64 l[k].kind, .int .i64 l[k].oc, .int .i64 l[k].line] 38))
      have F2 := F.alloc (.cells #[.int .i64 l[k].kind, .int .i64 l[k].oc, .int .i64 l[k].line] 38)
      have IB := Is.new wr 38 #[.int .i64 l[k].kind, .int .i64 l[k].oc, .int .i64 l[k].line]
      obtain ⟨e0, e1, e2⟩ := three6 IB
      have HF2 := Lib.hid F2
      have hr0 : w.heap.size + 3 ≤ wr.heap.size := by have := F.size; omega
      have hwb : wr.heap.size ≠ w.heap.size + 1 + 1 := by omega
      have lo0 := World.ownsRow.lt (H.own 0 _ rfl)
      have HWB := Lib.hid hwb
      have LO0 := Lib.hid lo0
      clear hs0 hs9 htk hL0 hL9 H F F2 Fw hwb lo0
      generalize l[k] = x at *
      by_cases hoc : x.oc = oc
      · have eo : (x.oc == oc) = true := by simpa using hoc
        have hin : inB oc x = true := by simp [inB, hoc]
        have hpt : ptB oc x = decide (x.kind = 1) := by simp [ptB, hoc]
        have hs0 := HS0.out
        have hs9 := HS9.out
        rw [hin, if_pos rfl] at hs0
        rw [hpt] at hs9
        have HA0 := Lib.hid hs0
        clear hoc hin hpt HS0 HS9 hs0
        go_upto_region 6 with fail
        clear e0 e1 e2 q0 q1 q2
        generalize wr.alloc _ = W2 at *
        generalize wr.heap.size = bb at *
        have Q5 := H2.fr ((Fr.refl (fun _ => False) W2).alloc (.cells #[.int .i64 ((k : Nat) : Int)] 3))
        have F5 := HF2.out.alloc (.cells #[.int .i64 ((k : Nat) : Int)] 3)
        have m5 : W2.cell? ⟨w.heap.size + 1 + 1, 0, none⟩ = some (.slice A0 L0.length d0) := H2.is.cell 0
        have n5 : (W2.alloc (.cells #[.int .i64 ((k : Nat) : Int)] 3)).cell? ⟨w.heap.size + 1 + 1, 0, none⟩ = some (.slice A0 L0.length d0) := Q5.is.cell 0
        have lo5 := World.ownsRow.lt (H2.own 0 _ rfl)
        have fit5 : w.heap.size + 3 ≤ (W2.alloc (.cells #[.int .i64 ((k : Nat) : Int)] 3)).heap.size := by have := F5.size; omega
        have ib5 := IB.alloc (.cells #[.int .i64 ((k : Nat) : Int)] 3)
        go_upto_region 7 with (at_builtin; refine wpList_append_wide _ rfl (.tmp 25) (.tmp 27) 25 rfl (w.heap.size + 3) 3 i0 _ 1 8 Try.underlying25 hi0 hz0 hz1 hz2 rfl (by decide) (.slice A0 L0.length d0) L0.length (L0.map (Value.int .i64)) rfl (Q5.own 0 _ rfl) (some ⟨W2.heap.size, 0, none⟩) 1 1 [.int .i64 ((k : Nat) : Int)] rfl rfl (lit_rd rfl _ _) (by simp [Value.oneCell']) (by unfold maxLen; omega) (by omega) fit5 ?_; intro v5 w5 hown hg hat; obtain ⟨A6, c6, rfl, _, _, _, _⟩ := wide_form hown; obtain ⟨P5, is5, f5⟩ := Q5.put (i := 0) (n := ((k : Nat) : Int)) rfl hown hg hat; have z5 := is5.frozen 0; have y5 : w5.cell? ⟨w.heap.size + 1 + 1, 0, none⟩ = some (.slice A0 L0.length d0) := is5.cell 0; clear hown hg hat is5)
        have hib5 := ib5.fr f5 (by rintro (e | e); exact HWB.out e; have := (LO0.out _ e).2; omega)
        have hf5 := F5.trans f5 (fun q hq e => e.elim id fun e => by have := (lo5 q e).1; omega)
        have HF5 := Lib.hid hf5
        clear f5 lo5 fit5 m5 n5 z5 y5 Q5 F5 hf5 ib5
        generalize w5.setCell ⟨w.heap.size + 1 + 1, 0, none⟩ _ = W5 at *
        obtain ⟨e0, e1, e2⟩ := three6 hib5
        by_cases hk1 : x.kind = 1
        · have ek : (x.kind == 1) = true := by simpa using hk1
          rw [show decide (x.kind = 1) = true by simpa using hk1, if_pos rfl] at hs9
          have HA9 := Lib.hid hs9
          clear hs9 hk1
          go_upto_region 8 with fail
          have Q7 := P5.fr ((Fr.refl (fun _ => False) W5).alloc (.cells #[.int .i64 ((k : Nat) : Int)] 3))
          have F7 := HF5.out.alloc (.cells #[.int .i64 ((k : Nat) : Int)] 3)
          have m7 : W5.cell? ⟨w.heap.size + 1 + 1, 1, none⟩ = some (.slice A9 L9.length d9) := P5.is.cell 1
          have n7 : (W5.alloc (.cells #[.int .i64 ((k : Nat) : Int)] 3)).cell? ⟨w.heap.size + 1 + 1, 1, none⟩ = some (.slice A9 L9.length d9) := Q7.is.cell 1
          have lo7 := World.ownsRow.lt (P5.own 1 _ rfl)
          have fit7 : w.heap.size + 3 ≤ (W5.alloc (.cells #[.int .i64 ((k : Nat) : Int)] 3)).heap.size := by have := F7.size; omega
          go_upto_region 9 with (at_builtin; refine wpList_append_wide _ rfl (.tmp 34) (.tmp 36) 25 rfl (w.heap.size + 3) 3 i0 _ 1 8 Try.underlying25 hi0 hz0 hz1 hz2 rfl (by decide) (.slice A9 L9.length d9) L9.length (L9.map (Value.int .i64)) rfl (Q7.own 1 _ rfl) (some ⟨W5.heap.size, 0, none⟩) 1 1 [.int .i64 ((k : Nat) : Int)] rfl rfl (lit_rd rfl _ _) (by simp [Value.oneCell']) (by unfold maxLen; omega) (by omega) fit7 ?_; intro v5 w5 hown hg hat; obtain ⟨A6, c6, rfl, _, _, _, _⟩ := wide_form hown; obtain ⟨P7, is5, f7⟩ := Q7.put (i := 1) (n := ((k : Nat) : Int)) rfl hown hg hat; have z5 := is5.frozen 1; have y5 : w5.cell? ⟨w.heap.size + 1 + 1, 1, none⟩ = some (.slice A9 L9.length d9) := is5.cell 1; clear hown hg hat is5)
          have hf7 := F7.trans f7 (fun q hq e => e.elim id fun e => by have := (lo7 q e).1; omega)
          have HF7 := Lib.hid hf7
          clear f7 lo7 fit7 m7 n7 z5 y5 Q7 F7 hf7
          generalize w5.setCell ⟨w.heap.size + 1 + 1, 1, none⟩ _ = W7 at *
          go_wp2_with fail
          go_roundw
          case rel => exact ⟨k + 1, _, _, by omega, by go_num, HA0.out.symm ▸ rfl, HA9.out.symm ▸ rfl, P7, HF7.out⟩
          case measure => simp [intOf]; omega
        · have ek : (x.kind == 1) = false := by simpa using hk1
          rw [show decide (x.kind = 1) = false by simpa using hk1] at hs9
          have HA9 := Lib.hid hs9
          clear hs9 hk1
          go_wp2_with fail
          go_roundw
          case rel => exact ⟨k + 1, _, _, by omega, by go_num, HA0.out.symm, by rw [HA9.out]; simp, P5, HF5.out⟩
          case measure => simp [intOf]; omega
      · have eo : (x.oc == oc) = false := by simpa using hoc
        have hin : inB oc x = false := by simp [inB, hoc]
        have hpt : ptB oc x = false := by simp [ptB, hoc]
        have hs0 := HS0.out
        have hs9 := HS9.out
        rw [hin] at hs0
        rw [hpt] at hs9
        have HA0 := Lib.hid hs0
        have HA9 := Lib.hid hs9
        clear hoc hin hpt HS0 HS9 hs0 hs9
        go_wp2_with fail
        go_roundw
        case rel => exact ⟨k + 1, ⟨A0, L0, d0⟩, ⟨A9, L9, d9⟩, by omega, by go_num, by rw [HA0.out]; simp, by rw [HA9.out]; simp, H2, HF2.out⟩
        case measure => simp [intOf]; omega
    · have hkl : k = l.length := by omega
      rw [hkl, List.take_length] at hL0 hL9
      have HL0 := Lib.hid hL0
      have HL9 := Lib.hid hL9
      have HG1 := Lib.hid H
      have HF1 := Lib.hid F
      obtain ⟨p0, p1, p2, p3, p4, p5, p6, p7, p8⟩ := nine_cells (HIC.out.fr F (by omega))
      clear hL0 hL9 H F Fw HGR
      go_wp2_with fail
      clear p0 p1 p2 p3 p4 p5 p6 p7 p8
      go_loopw [43] (fun v43 wq => ∃ (k : Nat) (y : L3), k ≤ cr.length ∧ v43 = .int .i64 (k : Nat) ∧ y.l = idx (hasB l oc) 0 (cr.take k) ∧ Gr wq (w.heap.size + 1 + 1) (w.heap.size + 3) [⟨A0, L0, d0⟩, ⟨A9, L9, d9⟩, y, ⟨none, [], 0⟩] ∧ Fr (fun q => q = w.heap.size + 1 + 1) w0 wq) (fun i _ => cr.length - (intOf i).toNat)
      case atStart => exact ⟨0, ⟨none, [], 0⟩, Nat.zero_le _, rfl, rfl, HG1.out, HF1.out⟩
      case round =>
        clear HG1 HF1
        obtain ⟨k, ⟨A0', L0', d0'⟩, hk, rfl, hL0, H, F⟩ := hrel
        have Fw : Fr (fun _ => False) w wr := HFA.out.trans F (fun q hq e => by omega)
        by_cases hlt : k < cr.length
        · have hLl : L0'.length ≤ k := by
            rw [show L0' = _ from hL0]
            exact Nat.le_trans (idx_le _ _ _) (by rw [List.length_take]; omega)
          obtain ⟨g, o, hA, _, q0⟩ := rd_int (HC.out.fr Fw).crs hlt
          simp only at hA
          subst hA
          have htk : (cr.take k).length = k := by rw [List.length_take]; omega
          have hs0 := idx_snoc (hasB l oc) (cr.take k) 0 cr[k]
          rw [Nat.zero_add, htk, ← List.take_succ_eq_append_getElem hlt, ← show L0' = _ from hL0] at hs0
          have HS0 := Lib.hid hs0
          have KX := KO wr Fw cr[k]
          have hr0 : w.heap.size + 3 ≤ wr.heap.size := by have := F.size; omega
          obtain ⟨p0, p1, p2, p3, p4, p5, p6, p7, p8⟩ := nine_cells (HIC.out.fr F (by omega))
          have HF2 := Lib.hid F
          have H1 := Lib.hid H
          clear hs0 htk hL0 H F Fw
          generalize cr[k] = n at *
          generalize hasB l oc n = bb at *
          go_wp2_with fail
          refine KX.mono ?_
          rintro e w3 ⟨rfl, f3⟩
          have H2 := H1.out.fr f3
          have HF3 := Lib.hid (HF2.out.trans (f3.mono fun _ _ h => h.elim) fun _ _ h => h)
          have hr3 : w.heap.size + 3 ≤ w3.heap.size := by have := f3.size; omega
          clear KX f3 H1 HF2 p0 p1 p2 p3 p4 p5 p6 p7 p8 q0
          cases bb with
          | true =>
            have HA0 := Lib.hid (HS0.out)
            clear HS0
            have Q7 := H2.fr ((Fr.refl (fun _ => False) w3).alloc (.cells #[.int .i64 ((k : Nat) : Int)] 3))
            have F7 := HF3.out.alloc (.cells #[.int .i64 ((k : Nat) : Int)] 3)
            have m7 : w3.cell? ⟨w.heap.size + 1 + 1, 2, none⟩ = some (.slice A0' L0'.length d0') := H2.is.cell 2
            have n7 : (w3.alloc (.cells #[.int .i64 ((k : Nat) : Int)] 3)).cell? ⟨w.heap.size + 1 + 1, 2, none⟩ = some (.slice A0' L0'.length d0') := Q7.is.cell 2
            have lo7 := World.ownsRow.lt (H2.own 2 _ rfl)
            have fit7 : w.heap.size + 3 ≤ (w3.alloc (.cells #[.int .i64 ((k : Nat) : Int)] 3)).heap.size := by have := F7.size; omega
            go_upto_region 15 with (at_builtin; refine wpList_append_wide _ rfl (.tmp 53) (.tmp 55) 25 rfl (w.heap.size + 3) 3 i0 _ 1 8 Try.underlying25 hi0 hz0 hz1 hz2 rfl (by decide) (.slice A0' L0'.length d0') L0'.length (L0'.map (Value.int .i64)) rfl (Q7.own 2 _ rfl) (some ⟨w3.heap.size, 0, none⟩) 1 1 [.int .i64 ((k : Nat) : Int)] rfl rfl (lit_rd rfl _ _) (by simp [Value.oneCell']) (by unfold maxLen; omega) (by omega) fit7 ?_; intro v5 w5 hown hg hat; obtain ⟨A6, c6, rfl, _, _, _, _⟩ := wide_form hown; obtain ⟨P7, is5, f7⟩ := Q7.put (i := 2) (n := ((k : Nat) : Int)) rfl hown hg hat; have z5 := is5.frozen 2; have y5 : w5.cell? ⟨w.heap.size + 1 + 1, 2, none⟩ = some (.slice A0' L0'.length d0') := is5.cell 2; clear hown hg hat is5)
            have hf7 := F7.trans f7 (fun q hq e => e.elim id fun e => by have := (lo7 q e).1; omega)
            have HF7 := Lib.hid hf7
            clear f7 lo7 fit7 m7 n7 z5 y5 Q7 F7 hf7
            generalize w5.setCell ⟨w.heap.size + 1 + 1, 2, none⟩ _ = W7 at *
            go_wp2_with fail
            go_roundw
            case rel => exact ⟨k + 1, _, by omega, by go_num, by rw [HA0.out]; simp, P7, HF7.out⟩
            case measure => simp [intOf]; omega
          | false =>
            go_wp2_with fail
            go_roundw
            case rel => exact ⟨k + 1, ⟨A0', L0', d0'⟩, by omega, by go_num, by rw [HS0.out]; simp, H2, HF3.out⟩
            case measure => simp [intOf]; omega
        · have hkl : k = cr.length := by omega
          rw [hkl, List.take_length] at hL0
          have HLc := Lib.hid hL0
          have HG1 := Lib.hid H
          have HF1 := Lib.hid F
          obtain ⟨p0, p1, p2, p3, p4, p5, p6, p7, p8⟩ := nine_cells (HIC.out.fr F (by omega))
          clear hL0 H F Fw
          go_wp2_with fail
          clear p0 p1 p2 p3 p4 p5 p6 p7 p8
          go_loopw [62] (fun v62 wq => ∃ (k : Nat) (y : L3), k ≤ sg.length ∧ v62 = .int .i64 (k : Nat) ∧ y.l = idx (sgB l oc) 0 (sg.take k) ∧ Gr wq (w.heap.size + 1 + 1) (w.heap.size + 3) [⟨A0, L0, d0⟩, ⟨A9, L9, d9⟩, ⟨A0', L0', d0'⟩, y] ∧ Fr (fun q => q = w.heap.size + 1 + 1) w0 wq) (fun i _ => sg.length - (intOf i).toNat)
          case atStart => exact ⟨0, ⟨none, [], 0⟩, Nat.zero_le _, rfl, rfl, HG1.out, HF1.out⟩
          case round =>
            clear HG1 HF1
            obtain ⟨k, ⟨A0'', L0'', d0''⟩, hk, rfl, hL0, H, F⟩ := hrel
            have Fw : Fr (fun _ => False) w wr := HFA.out.trans F (fun q hq e => by omega)
            by_cases hlt : k < sg.length
            · have hLl : L0''.length ≤ k := by
                rw [show L0'' = _ from hL0]
                exact Nat.le_trans (idx_le _ _ _) (by rw [List.length_take]; omega)
              obtain ⟨g, o, hA, _, q0, q1⟩ := rd_sg (HC.out.fr Fw).sigs hlt
              simp only at hA
              subst hA
              have htk : (sg.take k).length = k := by rw [List.length_take]; omega
              have hs0 := idx_snoc (sgB l oc) (sg.take k) 0 sg[k]
              rw [Nat.zero_add, htk, ← List.take_succ_eq_append_getElem hlt, ← show L0'' = _ from hL0] at hs0
              have HS0 := Lib.hid hs0
              have hr0 : w.heap.size + 3 ≤ wr.heap.size := by have := F.size; omega
              have KX := KO (wr.alloc (.cells #[.int .i64 sg[k].sec, .int .i64 sg[k].fin] 40)) (Fw.alloc _) sg[k].sec
              have HF2 := Lib.hid (F.alloc (.cells #[.int .i64 sg[k].sec, .int .i64 sg[k].fin] 40))
              obtain ⟨p0, p1, p2, p3, p4, p5, p6, p7, p8⟩ := nine_cells (HIC.out.fr HF2.out (by omega))
              obtain ⟨r0, r1⟩ := two_cells (Is.new wr 40 #[.int .i64 sg[k].sec, .int .i64 sg[k].fin])
              have H1 := Lib.hid (H.fr ((Fr.refl (fun _ => False) wr).alloc (.cells #[.int .i64 sg[k].sec, .int .i64 sg[k].fin] 40)))
              have hbb : sgB l oc sg[k] = hasB l oc sg[k].sec := rfl
              rw [hbb] at HS0
              clear hs0 htk hL0 H F Fw hbb
              generalize sg[k] = n at *
              generalize hasB l oc n.sec = bb at *
              go_wp2_with fail
              refine KX.mono ?_
              rintro e w3 ⟨rfl, f3⟩
              have H2 := H1.out.fr f3
              have HF3 := Lib.hid (HF2.out.trans (f3.mono fun _ _ h => h.elim) fun _ _ h => h)
              have hr3 : w.heap.size + 3 ≤ w3.heap.size := by have := f3.size; simp at this; omega
              clear KX f3 H1 HF2 p0 p1 p2 p3 p4 p5 p6 p7 p8 q0 q1 r0 r1
              cases bb with
              | true =>
                have HA0 := Lib.hid (HS0.out)
                clear HS0
                have Q7 := H2.fr ((Fr.refl (fun _ => False) w3).alloc (.cells #[.int .i64 ((k : Nat) : Int)] 3))
                have F7 := HF3.out.alloc (.cells #[.int .i64 ((k : Nat) : Int)] 3)
                have m7 : w3.cell? ⟨w.heap.size + 1 + 1, 3, none⟩ = some (.slice A0'' L0''.length d0'') := H2.is.cell 3
                have n7 : (w3.alloc (.cells #[.int .i64 ((k : Nat) : Int)] 3)).cell? ⟨w.heap.size + 1 + 1, 3, none⟩ = some (.slice A0'' L0''.length d0'') := Q7.is.cell 3
                have lo7 := World.ownsRow.lt (H2.own 3 _ rfl)
                have fit7 : w.heap.size + 3 ≤ (w3.alloc (.cells #[.int .i64 ((k : Nat) : Int)] 3)).heap.size := by have := F7.size; omega
                go_upto_region 21 with (at_builtin; refine wpList_append_wide _ rfl (.tmp 73) (.tmp 75) 25 rfl (w.heap.size + 3) 3 i0 _ 1 8 Try.underlying25 hi0 hz0 hz1 hz2 rfl (by decide) (.slice A0'' L0''.length d0'') L0''.length (L0''.map (Value.int .i64)) rfl (Q7.own 3 _ rfl) (some ⟨w3.heap.size, 0, none⟩) 1 1 [.int .i64 ((k : Nat) : Int)] rfl rfl (lit_rd rfl _ _) (by simp [Value.oneCell']) (by unfold maxLen; omega) (by omega) fit7 ?_; intro v5 w5 hown hg hat; obtain ⟨A6, c6, rfl, _, _, _, _⟩ := wide_form hown; obtain ⟨P7, is5, f7⟩ := Q7.put (i := 3) (n := ((k : Nat) : Int)) rfl hown hg hat; have z5 := is5.frozen 3; have y5 : w5.cell? ⟨w.heap.size + 1 + 1, 3, none⟩ = some (.slice A0'' L0''.length d0'') := is5.cell 3; clear hown hg hat is5)
                have hf7 := F7.trans f7 (fun q hq e => e.elim id fun e => by have := (lo7 q e).1; omega)
                have HF7 := Lib.hid hf7
                clear f7 lo7 fit7 m7 n7 z5 y5 Q7 F7 hf7
                generalize w5.setCell ⟨w.heap.size + 1 + 1, 3, none⟩ _ = W7 at *
                go_wp2_with fail
                go_roundw
                case rel => exact ⟨k + 1, _, by omega, by go_num, by rw [HA0.out]; simp, P7, HF7.out⟩
                case measure => simp [intOf]; omega
              | false =>
                go_wp2_with fail
                go_roundw
                case rel => exact ⟨k + 1, ⟨A0'', L0'', d0''⟩, by omega, by go_num, by rw [HS0.out]; simp, H2, HF3.out⟩
                case measure => simp [intOf]; omega
            · have hkl : k = sg.length := by omega
              rw [hkl, List.take_length] at hL0
              have HLg := Lib.hid hL0
              have R1 := HRR.out.fr F (by omega)
              have m0 : wr.cell? ⟨w.heap.size + 1 + 1, 0, none⟩ = some (.slice A0 L0.length d0) := H.is.cell 0
              have m1 : wr.cell? ⟨w.heap.size + 1 + 1, 1, none⟩ = some (.slice A9 L9.length d9) := H.is.cell 1
              have m2 : wr.cell? ⟨w.heap.size + 1 + 1, 2, none⟩ = some (.slice A0' L0'.length d0') := H.is.cell 2
              have m3 : wr.cell? ⟨w.heap.size + 1 + 1, 3, none⟩ = some (.slice A0'' L0''.length d0'') := H.is.cell 3
              obtain ⟨v0, v1, v2, v3⟩ := four_cells R1
              have z0 := R1.frozen 0
              have z1 := R1.frozen 1
              have z2 := R1.frozen 2
              have z3 := R1.frozen 3
              have HG1 := Lib.hid H
              have HF1 := Lib.hid F
              have HR1 := Lib.hid R1
              clear hL0 H F Fw R1
              go_wp2_with fail
              have J : Is ((((wr.setCell ⟨w.heap.size + 1, 0, none⟩ (.slice A0 L0.length d0)).setCell ⟨w.heap.size + 1, 1, none⟩ (.slice A9 L9.length d9)).setCell ⟨w.heap.size + 1, 2, none⟩ (.slice A0' L0'.length d0')).setCell ⟨w.heap.size + 1, 3, none⟩ (.slice A0'' L0''.length d0'')) (w.heap.size + 1) 33 #[.slice A0 L0.length d0, .slice A9 L9.length d9, .slice A0' L0'.length d0', .slice A0'' L0''.length d0''] := by
                have := (((HR1.out.set 0 (.slice A0 L0.length d0)).set 1 (.slice A9 L9.length d9)).set 2 (.slice A0' L0'.length d0')).set 3 (.slice A0'' L0''.length d0'')
                simpa using this
              have FJ : Fr (fun q => q = w.heap.size + 1) wr ((((wr.setCell ⟨w.heap.size + 1, 0, none⟩ (.slice A0 L0.length d0)).setCell ⟨w.heap.size + 1, 1, none⟩ (.slice A9 L9.length d9)).setCell ⟨w.heap.size + 1, 2, none⟩ (.slice A0' L0'.length d0')).setCell ⟨w.heap.size + 1, 3, none⟩ (.slice A0'' L0''.length d0'')) :=
                (((((Fr.refl (fun q => q = w.heap.size + 1) wr).setCell (p := ⟨w.heap.size + 1, 0, none⟩) (.inl rfl) _).setCell (p := ⟨w.heap.size + 1, 1, none⟩) (.inl rfl) _).setCell (p := ⟨w.heap.size + 1, 2, none⟩) (.inl rfl) _).setCell (p := ⟨w.heap.size + 1, 3, none⟩) (.inl rfl) _)
              generalize (((wr.setCell _ _).setCell _ _).setCell _ _).setCell _ _ = W9 at *
              have FW : Fr (fun _ => False) w W9 := HFA.out.trans ((HF1.out.mono (S' := fun q => q = w.heap.size + 1 + 1 ∨ q = w.heap.size + 1) fun _ _ h => .inl h).trans FJ fun _ _ h => .inr h) (fun q hq e => by omega)
              clear m0 m1 m2 m3 v0 v1 v2 v3 z0 z1 z2 z3
              obtain ⟨v0, v1, v2, v3⟩ := four_cells J
              have G9 : ∀ (i : Nat) y, [(⟨A0, L0, d0⟩ : L3), ⟨A9, L9, d9⟩, ⟨A0', L0', d0'⟩, ⟨A0'', L0'', d0''⟩][i]? = some y → y.l.length ≤ 17592186044416 → y.Ok W9 ∧ ∀ q, blk y.A = some q → w.heap.size + 3 ≤ q := by
                intro i y hy hl
                have o := HG1.out.own i y hy
                have k := own_l3b (wide_fr o FJ fun q hq e => wide_is_ne o HR1.out (by decide) (e ▸ hq)) hl
                exact ⟨k.1, fun q hq => (k.2 q hq).1⟩
              have b0 : L0.length ≤ 17592186044416 := by rw [show L0 = _ from HL0.out]; exact Nat.le_trans (idx_le _ _ _) (by omega)
              have b9 : L9.length ≤ 17592186044416 := by rw [show L9 = _ from HL9.out]; exact Nat.le_trans (idx_le _ _ _) (by omega)
              have bc : L0'.length ≤ 17592186044416 := by rw [show L0' = _ from HLc.out]; exact Nat.le_trans (idx_le _ _ _) (by omega)
              have bg : L0''.length ≤ 17592186044416 := by rw [show L0'' = _ from HLg.out]; exact Nat.le_trans (idx_le _ _ _) (by omega)
              have k0 := G9 0 _ rfl b0
              have k1 := G9 1 _ rfl b9
              have k2 := G9 2 _ rfl bc
              have k3 := G9 3 _ rfl bg
              refine bodyPost_ret (v := .agg #[.slice A0 L0.length d0, .slice A9 L9.length d9, .slice A0' L0'.length d0', .slice A0'' L0''.length d0'']) (by simp [results, Try.results10, go_sem, v0, v1, v2, v3]) rfl ⟨⟨⟨A0, L0, d0⟩, ⟨A9, L9, d9⟩, ⟨A0', L0', d0'⟩, ⟨A0'', L0'', d0''⟩⟩, rfl, ?_, ⟨k0.1, k1.1, k2.1, k3.1⟩, ⟨fun q hq => ?_, fun q hq => ?_, fun q hq => ?_, fun q hq => ?_⟩, FW⟩
              · show St.mk L0 L9 L0' L0'' = _
                rw [show L0 = _ from HL0.out, show L9 = _ from HL9.out, show L0' = _ from HLc.out, show L0'' = _ from HLg.out]
              · have := k0.2 q hq; omega
              · have := k1.2 q hq; omega
              · have := k2.2 q hq; omega
              · have := k3.2 q hq; omega
end Go.Proofs.Ytfmhfngilimhjaa.Te


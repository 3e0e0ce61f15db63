/- The contract of slices.SortFunc at the journal's sheets. -/
import Derived.Test.YtdoljggaoidljaaGreatRsh
import Derived.Test.YtdoljggaoidljaaGreatFind
import Derived.Shelf.SlSortCmp.WholeK
namespace Go.Proofs.YtdoljggaoidljaaGreat
open Go.RowKit Go.Sort Go.Lib Go.Shelf

/-- a sheet as it lies: with where its records lie -/
structure El where
  s : Jo.Sh
  stop : Nat
  A : Option Addr
  c : Nat
  small : s.nth ≤ 4294967296
instance : Inhabited El := ⟨⟨⟨0, 0, none, []⟩, 0, none, 0, by decide⟩⟩
def encEl (x : El) : List Value := [.string (safeT x.s.safe), .bool x.s.safe.isSome, .int .i64 (x.s.nth : Int), .int .i64 (x.s.first : Int), .slice x.A x.s.recs.length x.c, .int .i64 (x.stop : Int)]
def elCells (X : List El) : List Value := (X.map encEl).flatten
theorem encEl_len (x : El) : (encEl x).length = 6 := rfl
theorem elCells_length (X : List El) : (elCells X).length = X.length * 6 := by
  induction X with
  | nil => rfl
  | cons x r ih =>
    show (encEl x ++ elCells r).length = _
    rw [List.length_append, ih, List.length_cons]
    show 6 + _ = _
    omega
theorem elCells_append (X Y : List El) : elCells (X ++ Y) = elCells X ++ elCells Y := by unfold elCells; rw [List.map_append, List.flatten_append]
theorem elCells_at : ∀ (X : List El) (j i : Nat) (h : j < X.length), i < 6 → (elCells X)[j * 6 + i]? = (encEl X[j])[i]?
  | x :: r, 0, i, _, hi => by
    show (encEl x ++ elCells r)[0 * 6 + i]? = _
    rw [Nat.zero_mul, Nat.zero_add, List.getElem?_append_left (by rw [encEl_len]; exact hi)]
    rfl
  | x :: r, j + 1, i, h, hi => by
    show (encEl x ++ elCells r)[(j + 1) * 6 + i]? = _
    rw [List.getElem?_append_right (by rw [encEl_len]; omega), encEl_len, show (j + 1) * 6 + i - 6 = j * 6 + i by omega, elCells_at r j i (by simpa using h) hi]
    rfl
theorem elCells_one (X : List El) : ∀ u ∈ elCells X, u.oneCell' = true := by
  intro u hu
  obtain ⟨l, hl, hu⟩ := List.mem_flatten.1 hu
  obtain ⟨x, _, rfl⟩ := List.mem_map.1 hl
  simp only [encEl, List.mem_cons, List.not_mem_nil, or_false] at hu
  rcases hu with rfl | rfl | rfl | rfl | rfl | rfl <;> rfl

def cfEl (x y : El) : Int := (x.s.nth : Int) - (y.s.nth : Int)
theorem ltEl (x y : El) : ltOf cfEl x y = decide (x.s.nth < y.s.nth) := by
  unfold ltOf cfEl
  by_cases h : x.s.nth < y.s.nth
  · rw [decide_eq_true h, decide_eq_true (by omega)]
  · rw [decide_eq_false h, decide_eq_false (by omega)]
theorem swoEl : SWO (ltOf cfEl) where
  irrefl x := by rw [ltEl]; simp
  trans x y z h1 h2 := by rw [ltEl] at *; simp at *; omega
  ntrans x y z h1 h2 := by rw [ltEl] at *; simp at *; omega
set_option maxHeartbeats 1000000 in
theorem closure_any (x y : El) (W : World) : Calls Tryz.prog 32 #[.agg (encEl x).toArray, .agg (encEl y).toArray] W fun e w' => e = .returned (.int .i64 (cfEl x y)) ∧ ∃ q os', w' = grow (W.drewN q) os' := by
  show Calls Tryz.prog 32 #[.agg #[.string (safeT x.s.safe), .bool x.s.safe.isSome, .int .i64 (x.s.nth : Int), .int .i64 (x.s.first : Int), .slice x.A x.s.recs.length x.c, .int .i64 (x.stop : Int)], .agg #[.string (safeT y.s.safe), .bool y.s.safe.isSome, .int .i64 (y.s.nth : Int), .int .i64 (y.s.first : Int), .slice y.A y.s.recs.length y.c, .int .i64 (y.stop : Int)]] W _
  have hx := x.small
  have hy := y.small
  unfold cfEl
  generalize x.s.nth = a at *
  generalize y.s.nth = b at *
  go_enter Tryz.func32, Tryz.ntmps32
  go_wp2
  go_ret
  exact ⟨rfl, 0, _, by rw [alloc_eq_grow, alloc_eq_grow, grow_grow]; rfl⟩
theorem cmpEl (blk off size : Nat) (w : World) : CmpLays Tryz.prog 32 #[] encEl 6 cfEl blk off size w := fun _ _ _ _ x y => closure_any x y _

theorem fr_sortK {w : World} {g n : Nat} {os : Array Obj} (d : Array El) : Fr (fun k => k = g) w (sortWorldK encEl 6 w g 0 n d os) := by
  refine ⟨rfl, rfl, rfl, ?_, fun k hk hn => ?_⟩
  · unfold sortWorldK grow putRowK putRow mapBlock
    simp [Sort.ahead]
  · unfold sortWorldK grow putRowK putRow mapBlock
    simp only [Sort.ahead]
    rw [Array.getElem?_append_left (by simpa using hk), Array.getElem?_modify, if_neg (fun e => hn e.symm)]
theorem holds_el {w : World} {B g c : Nat} {X : List El} (h : w.ownsRow B 68 6 (.slice (some ⟨g, 0, none⟩) X.length c) X.length (elCells X)) : HoldsK encEl 6 w g 0 X.toArray := by
  rcases h.2 with ⟨hv, _⟩ | ⟨g', cap, cur, hv, hb, hg, hn, hm, hs, ht⟩
  · injection hv with hv
    cases hv
  · injection hv with hv _ _
    injection hv with hv
    injection hv with hv _ _
    subst hv
    intro j hj
    rw [size_flatK] at hj
    have hsz : X.toArray.size = X.length := rfl
    rw [hsz] at hj
    have i0 : Is w g 68 cur := hg
    refine ⟨?_, by rw [Nat.zero_add]; exact i0.frozen j⟩
    rw [Nat.zero_add, i0.cell j, get_flatK _ _ _ _ (by rw [hsz]; exact hj)]
    have hj6 : j / 6 < X.length := by omega
    have e1 : cur[j]? = (elCells X)[j]? := by
      rw [← ht, List.getElem?_take, if_pos (by omega), Array.getElem?_toList]
    have e2 := elCells_at X (j / 6) (j % 6) hj6 (by omega)
    rw [show j / 6 * 6 + j % 6 = j by omega] at e2
    rw [e1, e2]
    have e3 : X.toArray[j / 6]! = X[j / 6] := by rw [getElem!_pos X.toArray (j / 6) hj6]; rfl
    rw [e3, List.getElem?_eq_getElem (by rw [encEl_len]; omega), getElem!_pos (encEl X[j / 6]) (j % 6) (by rw [encEl_len]; omega)]
    rfl
theorem sort_any {w : World} {B g c : Nat} {X : List El} (h : w.ownsRow B 68 6 (.slice (some ⟨g, 0, none⟩) X.length c) X.length (elCells X)) (hl : X.length < 4611686018427387904) :
    Calls Tryz.prog 31 #[.slice (some ⟨g, 0, none⟩) X.length c, .func (.func 32) #[] #[]] w fun e w' => e = .returned (.tuple #[]) ∧ ∃ Y : List El, X.Perm Y ∧ Y.Pairwise (fun a b => a.s.nth ≤ b.s.nth) ∧ Rd w' (some ⟨g, 0, none⟩) (elCells Y) ∧ Fr (fun j => j = g) w w' := by
  have eg : ∀ args w, (callFunc 32 args).run Tryz.prog w = .ok (.enter 32 args) w := enters_of Tryz.func32 (by kernel_rfl) rfl
  have hH := holds_el h
  have hg : g < w.heap.size := wide_lt h g rfl
  have hcon := AnyQ.slices_SortFunc Tryz.sortf 6 Tryz.isAgg68 Tryz.sizeOf68 encEl encEl_len (fun x v hv => elCells_one [x] v (by show v ∈ encEl x ++ []; rw [List.append_nil]; exact hv)) cfEl swoEl 32 #[] g 0 c X.toArray w eg (cmpEl g 0 _ w) hH hg hl
  refine Calls.mono (show Calls Tryz.prog 31 _ _ _ from hcon) ?_
  rintro e w' ⟨rfl, d', n, os, hp, hs, rfl⟩
  obtain ⟨hp1, _, hp3⟩ := hp
  have hsz : X.toArray.size = X.length := rfl
  rw [hsz] at hp1 hp3 hs
  have hd : d'.extract 0 X.length = d' := by rw [← hp1]; simp
  have hx : X.toArray.extract 0 X.length = X.toArray := by simp
  rw [hd, hx] at hp3
  refine ⟨rfl, d'.toList, hp3.symm, ?_, ?_, fr_sortK d'⟩
  · rw [List.pairwise_iff_getElem]
    intro i j hi hj hij
    rw [Array.length_toList] at hi hj
    have := hs i j (Nat.zero_le _) hij (by omega)
    rw [ltEl, decide_eq_false_iff_not, getElem!_pos d' j hj, getElem!_pos d' i hi] at this
    show (d'.toList[i]).s.nth ≤ (d'.toList[j]).s.nth
    rw [Array.getElem_toList, Array.getElem_toList]
    omega
  · intro h0
    have hw : HoldsK encEl 6 (sortWorldK encEl 6 w g 0 n d' os) g 0 d' := by
      unfold sortWorldK
      refine holdsK_grow _ _ _ _ _ _ _ (by rw [size_putRowK]; exact hg) ?_
      exact holdsK_putRowK _ _ (Sort.ahead w n) g 0 X.toArray d' hH (by rw [hp1]; rfl)
    refine ⟨g, 0, rfl, Nat.lt_of_lt_of_le hg (fr_sortK d').size, fun j u hu => ?_⟩
    have hj : j < (elCells d'.toList).length := (List.getElem?_eq_some_iff.1 hu).1
    rw [elCells_length, Array.length_toList] at hj
    have hc := (HoldsK.cell hw (i := j / 6) (c := j % 6) (by omega) (by omega)).1
    rw [Nat.zero_add, show j / 6 * 6 + j % 6 = j by omega] at hc
    rw [Nat.zero_add, hc]
    have e2 := elCells_at d'.toList (j / 6) (j % 6) (by rw [Array.length_toList]; omega) (by omega)
    rw [show j / 6 * 6 + j % 6 = j by omega, hu] at e2
    rw [e2, getElem!_pos d' (j / 6) (by omega), List.getElem?_eq_getElem (by rw [encEl_len]; omega), getElem!_pos (encEl d'[j / 6]) (j % 6) (by rw [encEl_len]; omega)]
    rfl
end Go.Proofs.YtdoljggaoidljaaGreat

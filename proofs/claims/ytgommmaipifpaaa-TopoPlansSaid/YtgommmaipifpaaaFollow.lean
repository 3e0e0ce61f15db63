/- The contract of Follow: the steps of a train's way, in memory of the call's own. -/
import Derived.Test.YtgommmaipifpaaaGo
import Derived.Laws.MakeOwn
import Derived.Deep.RegionHeld3
import Derived.StillTailTactics
namespace Go.Proofs.Ytgommmaipifpaaa
open Go.RowKit

def cellsT (l : List St) : List Value := l.flatMap fun s => [.int .i64 s.sec, .int .i64 s.inn, .int .i64 s.out]
def cellsB (l : List Bool) : Array Value := (l.map Value.bool).toArray
theorem cellsT_length (l : List St) : (cellsT l).length = l.length * 3 := by
  induction l with
  | nil => rfl
  | cons v r ih =>
    have e : cellsT (v :: r) = [.int .i64 v.sec, .int .i64 v.inn, .int .i64 v.out] ++ cellsT r := rfl
    rw [e, List.length_append, ih, List.length_cons]
    simp
    omega
theorem cellsT_snoc (l : List St) (v : St) : cellsT (l ++ [v]) = cellsT l ++ [.int .i64 v.sec, .int .i64 v.inn, .int .i64 v.out] := by
  unfold cellsT
  rw [List.flatMap_append]
  rfl
theorem Try.infoT : (Try.prog.info? 37).map (fun i => (i.zero, i.size, i.bytes)) = some (some (.agg #[.int .i64 0, .int .i64 0, .int .i64 0]), 3, 24) := by kernel_rfl
theorem Try.infoBool : (Try.prog.info? 4).map (fun i => (i.zero, i.size, i.bytes)) = some (some (.bool false), 1, 1) := by kernel_rfl

theorem make_bools (n : Nat) (hn : n ≤ 140737488355328) (W : World) : (Instr.makeSlice 68 (.int .i64 (n : Int)) (.int .i64 (n : Int))).run Try.prog W = .ok (.slice (some ⟨W.heap.size, 0, none⟩) n n) (W.alloc (.cells (cellsB (List.replicate n false)) 4)) := by
  obtain ⟨i0, hi0, hz0, hz1, hz2⟩ := info_parts Try.infoBool
  have h := run_make (P := Try.prog) W 68 4 i0 _ Try.underlying68 hi0 hz0 .i64 .i64 (n : Int) (n : Int) (by omega) (by omega) (by rw [hz2]; omega) (by omega)
  rw [h, hz1, Int.toNat_natCast]
  have e : madeCells (Value.bool false).cells (n * 1) = cellsB (List.replicate n false) := by
    apply Array.ext_getElem?
    intro i
    unfold madeCells cellsB
    by_cases hi : i < n
    · have e2 : i % 1 = 0 := Nat.mod_one i
      simp [Value.cells, hi, e2]
    · simp [hi]
  rw [e]
theorem cellsB_at {l : List Bool} {k : Nat} (h : k < l.length) : (cellsB l)[k]? = some (.bool (seenAt l k)) := by
  unfold cellsB
  rw [List.getElem?_toArray, List.getElem?_map, seenAt_get h]
  rfl
theorem cellsB_set (l : List Bool) (k : Nat) (b : Bool) : (cellsB l).setIfInBounds k (.bool b) = cellsB (l.set k b) := by
  unfold cellsB
  rw [List.setIfInBounds_toArray, List.map_set]

theorem Rd.drew1 {w : World} {A : Option Addr} {xs : List Value} (h : Rd w A xs) : Rd w.drew A xs := h

/-- Steps that lie in memory of the call's own. -/
def Steps (w : World) (L : List St) (e : Ending) (w' : World) : Prop := ∃ A c, e = .returned (.slice A L.length c) ∧ w'.ownsRow w.heap.size 37 3 (.slice A L.length c) L.length (cellsT L) ∧ Fr (fun _ => False) w w'

set_option maxHeartbeats 4000000 in
theorem follow_any {A1 A2 A3 : Option Addr} {c1 c2 c3 : Nat} {l : List Sec} {js : List Jo} {p : List Int} (s i : Int) (w : World) (h1 : Rd w A1 (cellsS l)) (h2 : Rd w A2 (cellsJ js)) (h3 : Rd w A3 (p.map (Value.int .i64)))
    (hl : l.length * 24 ≤ 140737488351232) (hj : js.length ≤ 9223372036854775807) (hp : p.length ≤ 9223372036854775807) :
    Calls Try.prog 21 #[.slice A1 l.length c1, .slice A2 js.length c2, .int .i64 s, .int .i64 i, .slice A3 p.length c3] w (Steps w (followM l js s i p)) := by
  have KE := fun w h => isend_any (c := c1) s i w (l := l) (A := A1) h
  unfold followM
  cases he : isEndB l s i
  · rw [he] at KE
    rw [if_neg (by decide)]
    clear he
    go_enter Try.func21, Try.ntmps21
    go_wp2_with fail
    refine (KE _ h1).mono ?_
    rintro x w1 ⟨rfl, rfl⟩
    go_wp2
    go_ret
    exact ⟨none, 0, rfl, World.ownsRow_nil _ _ _ _, Fr.refl _ _⟩
  · rw [he] at KE
    rw [if_pos rfl]
    clear he
    generalize hT : followF (l.length + 1) l js p (List.replicate l.length false) s i = T
    have HT := Lib.hid hT
    clear hT
    have hmk := make_bools l.length (by omega)
    generalize hcs : cellsB (List.replicate l.length false) = cs at hmk
    have HC := Lib.hid hcs
    clear hcs
    obtain ⟨i0, hi0, hz0, hz1, hz2⟩ := info_parts Try.infoT
    go_enter Try.func21, Try.ntmps21
    go_wp2_with fail
    refine (KE _ h1).mono ?_
    clear KE
    rintro x w1 ⟨rfl, rfl⟩
    go_wp2_with fail
    clear hmk
    go_loopw [2, 3, 11] (fun v2 v3 v11 wr => ∃ (s i : Int) (ts : List St) (A : Option Addr) (c : Nat) (seen : List Bool), v2 = .int .i64 s ∧ v3 = .int .i64 i ∧ v11 = .slice A ts.length c ∧ seen.length = l.length ∧ unseen seen + ts.length = l.length ∧
        Is wr w.heap.size 4 (cellsB seen) ∧ wr.ownsRow w.heap.size 37 3 (.slice A ts.length c) ts.length (cellsT ts) ∧ Fr (fun _ => False) w wr ∧ ts ++ followF (unseen seen + 1) l js p seen s i = T)
      (fun _ _ v _ => l.length + 1 - (match v with | .slice _ n _ => n | _ => 0))
    case atStart => exact ⟨s, i, [], none, 0, _, rfl, rfl, rfl, List.length_replicate, by rw [unseen_new]; rfl, by rw [HC.out]; exact Is.new _ _ _, World.ownsRow_nil _ _ _ _, (Fr.refl _ _).alloc _, by rw [unseen_new]; exact HT.out⟩
    case round =>
      clear HC HT
      obtain ⟨s, i, ts, A, c, seen, rfl, rfl, rfl, hsl, hun, his, hown, fr, hT⟩ := hrel
      have KS := fun w => issec_any (A := A1) (c := c1) (n := l.length) s w
      cases hs : isSecB l.length s
      · rw [hs] at KS
        rw [follow_stop (by rw [hs]; rfl), List.append_nil] at hT
        subst hT
        clear hs h1 h2 h3
        go_wp2_with fail
        refine (KS _).mono ?_
        rintro x w3 ⟨rfl, rfl⟩
        go_wp2
        go_ret
        exact ⟨A, c, rfl, hown, fr⟩
      · rw [hs] at KS
        obtain ⟨k, rfl, hk⟩ := isSecB_true hs
        clear hs
        have hb := his.lt
        have k0 := (his.cell k).trans (cellsB_at (by omega))
        have kf := his.frozen k
        cases hse : seenAt seen k
        · rw [hse] at k0
          have hun2 := unseen_set seen k (by omega) hse
          rw [follow_nat hk hse] at hT
          have his1 := his.set k (.bool true)
          rw [cellsB_set] at his1
          have f1 := (Fr.refl (fun j => j = w.heap.size) wr).setCell (p := ⟨w.heap.size, k, none⟩) (.inl rfl) (.bool true)
          have hown1 := wide_fr hown f1 (fun j hj e => wide_is_ne hown his (by decide) (e ▸ hj))
          have fr1 := fr.setCell (p := ⟨w.heap.size, k, none⟩) (.inr (Nat.le_refl _)) (.bool true)
          obtain ⟨g, o, rfl, q0, _, _⟩ := rd_sec (h1.fr fr1 fun _ _ => id) hk
          have KP := fun w' h => position_any (c := c3) k w' (p := p) (A := A3) h hp (by omega)
          have KW := fun w' => way_any (kindOf l k) i (posAt p k) w'
          rw [← kindOf_at hk] at q0
          generalize kindOf l k = kd at *
          generalize posAt p k = pp at *
          have HP3 := h3.fr fr1 fun _ _ => id
          have hgl := World.block_lt_of_cell? _ ⟨g, o + k * 3, none⟩ q0
          clear fr his f1 hown h1 h3
          have hts : ts.length < l.length := by omega
          have HSE := Lib.hid hse
          clear hse
          generalize hO : wayOut kd i pp = O at *
          have HO := Lib.hid hO
          clear hO
          cases hok : wayOk kd i pp
          · rw [hok] at KW hT
            rw [if_neg (by decide)] at hT
            subst hT
            clear hok hun hun2 hsl
            go_wp2_with fail
            refine (KS _).mono ?_
            clear KS
            rintro x w3 ⟨rfl, rfl⟩
            go_wp2_with fail
            go_region_held3 (fun Wx => Wx.cell? ⟨g, o + k * 3, none⟩ = some (.int .i64 kd) ∧ Rd Wx A3 (p.map (Value.int .i64))) (first | exact ⟨q0, HP3⟩ | exact ⟨q4, HP4⟩) (first | (go_at_call 36; refine (KP _ (by assumption)).mono ?_; rintro e w4 ⟨rfl, rfl⟩) | (go_at_call 15; refine (KW _).mono ?_; rintro e w4 ⟨rfl, f4⟩; have q4 := (f4.cell (p := ⟨g, o + k * 3, none⟩) (by simpa using hgl) id).trans q0; have HP4 := (Rd.drew1 HP3).fr f4 fun _ _ => id))
            have fr4 := fr_nil fr1.drew f4
            have hown4 := wide_fr hown1.drew f4 fun _ _ => id
            have hlo := World.ownsRow.lt hown4
            go_wp2_with (at_builtin; refine wpList_append_wide _ rfl (.tmp 51) (.tmp 55) 43 rfl w.heap.size 37 i0 _ 3 24 Try.underlying43 hi0 hz0 hz1 hz2 rfl (by decide) (.slice A ts.length c) ts.length (cellsT ts) rfl (hown4.alloc _) (some ⟨w4.heap.size, 0, none⟩) 1 1 [.int .i64 (k : Nat), .int .i64 i, .int .i64 (-1)] rfl rfl (lit_rd w4 _ _) (by simp [Value.oneCell']) (by unfold maxLen; omega) (by omega) (Nat.le_trans fr4.size (by simp)) ?_; intro v5 w5 hown5 hg5 hat5; obtain ⟨A5, c5, rfl, _, _, _, _⟩ := wide_form hown5)
            go_wp2
            go_ret
            refine ⟨A5, c5, by rw [List.length_append]; rfl, ?_, (fr4.alloc _).grown hg5 fun j hj => .inr (hlo j hj).1⟩
            rw [List.length_append, cellsT_snoc]
            exact hown5
          · rw [hok] at KW hT
            rw [if_pos rfl] at hT
            have KN := fun w h => next_any (c := c2) (k : Nat) O w (l := js) (A := A2) h hj
            clear hok
            generalize hS : nextS js (k : Nat) O = S' at *
            generalize hE : nextE js (k : Nat) O = E' at *
            cases hno : nextOk js (k : Nat) O
            · rw [hno] at KN hT
              rw [if_neg (by decide)] at hT
              subst hT
              clear hno hun hun2 hsl hS hE
              go_wp2_with fail
              refine (KS _).mono ?_
              clear KS
              rintro x w3 ⟨rfl, rfl⟩
              go_wp2_with fail
              go_region_held3 (fun Wx => Wx.cell? ⟨g, o + k * 3, none⟩ = some (.int .i64 kd) ∧ Rd Wx A3 (p.map (Value.int .i64))) (first | exact ⟨q0, HP3⟩ | exact ⟨q4, HP4⟩) (first | (go_at_call 36; refine (KP _ (by assumption)).mono ?_; rintro e w4 ⟨rfl, rfl⟩) | (go_at_call 15; refine (KW _).mono ?_; rintro e w4 ⟨rfl, f4⟩; have q4 := (f4.cell (p := ⟨g, o + k * 3, none⟩) (by simpa using hgl) id).trans q0; have HP4 := (Rd.drew1 HP3).fr f4 fun _ _ => id))
              have fr4 := fr_nil fr1.drew f4
              have hown4 := wide_fr hown1.drew f4 fun _ _ => id
              have hlo := World.ownsRow.lt hown4
              go_wp2_with (at_builtin; refine wpList_append_wide _ rfl (.tmp 57) (.tmp 62) 43 rfl w.heap.size 37 i0 _ 3 24 Try.underlying43 hi0 hz0 hz1 hz2 rfl (by decide) (.slice A ts.length c) ts.length (cellsT ts) rfl (hown4.alloc _) (some ⟨w4.heap.size, 0, none⟩) 1 1 [.int .i64 (k : Nat), .int .i64 i, .int .i64 O] rfl rfl (lit_rd w4 _ _) (by simp [Value.oneCell']) (by unfold maxLen; omega) (by omega) (Nat.le_trans fr4.size (by simp)) ?_; intro v5 w5 hown5 hg5 hat5; obtain ⟨A5, c5, rfl, _, _, _, _⟩ := wide_form hown5)
              have fr5 := (fr4.alloc (.cells #[.int .i64 (k : Nat), .int .i64 i, .int .i64 O] 37)).grown hg5 fun j hj => .inr (hlo j hj).1
              go_wp2_with fail
              refine (KN _ (h2.fr fr5 fun _ _ => id)).mono ?_
              clear KN
              rintro x w6 ⟨rfl, f6⟩
              go_wp2_with fail
              go_ret
              refine ⟨A5, c5, by rw [List.length_append]; rfl, ?_, fr_nil fr5 f6⟩
              rw [List.length_append, cellsT_snoc]
              exact wide_fr hown5 f6 fun _ _ => id
            · rw [hno] at KN hT
              rw [if_pos rfl] at hT
              have HS := Lib.hid hS
              have HE := Lib.hid hE
              have HT := Lib.hid hT
              have HUN := Lib.hid hun
              have HUN2 := Lib.hid hun2
              have HSL := Lib.hid hsl
              clear hno hun hun2 hsl hS hE hT
              go_wp2_with fail
              refine (KS _).mono ?_
              clear KS
              rintro x w3 ⟨rfl, rfl⟩
              go_wp2_with fail
              go_region_held3 (fun Wx => Wx.cell? ⟨g, o + k * 3, none⟩ = some (.int .i64 kd) ∧ Rd Wx A3 (p.map (Value.int .i64))) (first | exact ⟨q0, HP3⟩ | exact ⟨q4, HP4⟩) (first | (go_at_call 36; refine (KP _ (by assumption)).mono ?_; rintro e w4 ⟨rfl, rfl⟩) | (go_at_call 15; refine (KW _).mono ?_; rintro e w4 ⟨rfl, f4⟩; have q4 := (f4.cell (p := ⟨g, o + k * 3, none⟩) (by simpa using hgl) id).trans q0; have HP4 := (Rd.drew1 HP3).fr f4 fun _ _ => id))
              have fr4 := fr_nil fr1.drew f4
              have hown4 := wide_fr hown1.drew f4 fun _ _ => id
              have his4 := his1.drew.fr f4 id
              have hlo := World.ownsRow.lt hown4
              have hne := wide_is_ne hown4 his4 (by decide)
              go_wp2_with (at_builtin; refine wpList_append_wide _ rfl (.tmp 57) (.tmp 62) 43 rfl w.heap.size 37 i0 _ 3 24 Try.underlying43 hi0 hz0 hz1 hz2 rfl (by decide) (.slice A ts.length c) ts.length (cellsT ts) rfl (hown4.alloc _) (some ⟨w4.heap.size, 0, none⟩) 1 1 [.int .i64 (k : Nat), .int .i64 i, .int .i64 O] rfl rfl (lit_rd w4 _ _) (by simp [Value.oneCell']) (by unfold maxLen; omega) (by omega) (Nat.le_trans fr4.size (by simp)) ?_; intro v5 w5 hown5 hg5 hat5; obtain ⟨A5, c5, rfl, _, _, _, _⟩ := wide_form hown5)
              have fr5 := (fr4.alloc (.cells #[.int .i64 (k : Nat), .int .i64 i, .int .i64 O] 37)).grown hg5 fun j hj => .inr (hlo j hj).1
              have his5 := (his4.alloc (.cells #[.int .i64 (k : Nat), .int .i64 i, .int .i64 O] 37)).fr ((Fr.refl (fun j => (Value.slice A ts.length c).ownBlock = some j) _).grown hg5 fun j hj => .inl hj) hne
              clear hne
              go_wp2_with fail
              refine (KN _ (h2.fr fr5 fun _ _ => id)).mono ?_
              clear KN
              rintro x w6 ⟨rfl, f6⟩
              go_wp2_with fail
              go_roundw
              case rel =>
                refine ⟨S', E', ts ++ [⟨k, i, O⟩], A5, c5, seen.set k true, rfl, rfl, by rw [List.length_append]; rfl, by rw [List.length_set]; exact HSL.out, ?_, his5.fr f6 id, ?_, fr_nil fr5 f6, ?_⟩
                · have := HUN.out
                  have := HUN2.out
                  rw [List.length_append]
                  show _ + (ts.length + 1) = _
                  omega
                · rw [List.length_append, cellsT_snoc]
                  exact wide_fr hown5 f6 fun _ _ => id
                · rw [HUN2.out, List.append_assoc]
                  exact HT.out
              case measure => simp; omega
        · rw [hse] at k0
          rw [follow_stop (by rw [Int.toNat_natCast, hse]; simp), List.append_nil] at hT
          subst hT
          clear hse h1 h2 h3
          go_wp2_with fail
          refine (KS _).mono ?_
          rintro x w3 ⟨rfl, rfl⟩
          go_wp2
          go_ret
          exact ⟨A, c, rfl, hown, fr⟩
end Go.Proofs.Ytgommmaipifpaaa

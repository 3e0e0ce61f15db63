/- Contracts and plain mathematics of earlier stages: Mv, Mnd, Mcr, Mcx. -/
import Derived.Test.YtnnacdkijeoeoaaKa
import Derived.Test.YtnnacdkijeoeoaaKc
import Derived.Deep.CutRange
import Derived.Deep.LoopGhost
namespace Go.Proofs.Ytnnacdkijeoeoaa.Mv
open Go.RowKit

/-- A number as a time: brought between -1 and 2^62. -/
def wz (x : Int) : Int := if x < -1 then -1 else if 4611686018427387904 < x then 4611686018427387904 else x
theorem wz_bd (x : Int) : -1 ≤ wz x ∧ wz x ≤ 4611686018427387904 := by unfold wz; split <;> (try split) <;> omega
theorem ret_int {k : IntKind} {a b : Int} (h : a = b) : Ending.returned (.int k a) = .returned (.int k b) := by rw [h]
theorem start_any (n : Int) (w : World) : Calls Try.prog 48 #[.int .i64 n] w fun e w' => e = .returned (.agg #[.int .i64 0, .int .i64 n]) ∧ Fr (fun _ => False) w w' := by
  have HF := Lib.hid ((Fr.refl (fun _ => False) w).alloc (.cells #[.int .i64 0, .int .i64 n] 89))
  go_enter Try.func48, Try.ntmps48
  go_wp2_with fail
  exact bodyPost_ret (v := .agg #[.int .i64 0, .int .i64 n]) (by simp [results, Try.results48, go_sem]) rfl ⟨rfl, HF.out⟩
theorem command_any (c o now cmd : Int) (w : World) : Calls Try.prog 49 #[.agg #[.int .i64 c, .int .i64 o], .int .i64 now, .int .i64 cmd] w fun e w' => e = .returned (.agg #[.int .i64 cmd, .int .i64 (if c = cmd then o else now)]) ∧ Fr (fun _ => False) w w' := by
  by_cases h : c = cmd
  · subst h
    rw [if_pos rfl]
    have HF := Lib.hid (((Fr.refl (fun _ => False) w).alloc (.cells #[.int .i64 c, .int .i64 o] 89)).alloc (.cells #[.int .i64 c, .int .i64 o] 89))
    go_enter Try.func49, Try.ntmps49
    go_wp2_with fail
    exact bodyPost_ret (v := .agg #[.int .i64 c, .int .i64 o]) (by simp [results, Try.results49, go_sem]) rfl ⟨rfl, HF.out⟩
  · rw [if_neg h]
    have hb : (c == cmd) = false := by simpa using h
    have HF := Lib.hid (((Fr.refl (fun _ => False) w).alloc (.cells #[.int .i64 c, .int .i64 o] 89)).alloc (.cells #[.int .i64 cmd, .int .i64 now] 89))
    clear h
    go_enter Try.func49, Try.ntmps49
    go_wp2_with fail
    exact bodyPost_ret (v := .agg #[.int .i64 cmd, .int .i64 now]) (by simp [results, Try.results49, go_sem]) rfl ⟨rfl, HF.out⟩
/-- Proven, as plain data: mover (c, o), look (v, s, q), age. -/
def pv (c o v s : Int) (q : Bool) (age : Int) : Bool := q && (c != 0 && (c == v && decide (wz age < wz s - wz o)))
end Go.Proofs.Ytnnacdkijeoeoaa.Mv

namespace Go.Proofs.Ytnnacdkijeoeoaa.Mv
open Go.RowKit

theorem Try.infoNd : (Try.prog.info? 120).map (fun i => (i.zero, i.size, i.bytes)) = some (some (.agg #[.int .i64 0, .int .i64 0]), 2, 16) := by kernel_rfl
/-- the position that a step asks for -/
def ask (l : List Sec) (s : St) : Option Nd :=
  if 0 ≤ s.sec then (match l[s.sec.toNat]? with | none => none | some k => if (posOk k.kind s.inn s.out && posOut k.kind s.inn s.out != 0) = true then some ⟨s.sec, posOut k.kind s.inn s.out⟩ else none) else none
theorem ask_neg {l : List Sec} {s : St} (h : ¬ 0 ≤ s.sec) : ask l s = none := by unfold ask; rw [if_neg h]
theorem ask_far {l : List Sec} {s : St} (h : 0 ≤ s.sec) (h2 : ¬ s.sec < l.length) : ask l s = none := by
  unfold ask
  rw [if_pos h, List.getElem?_eq_none (by omega)]
theorem ask_at {l : List Sec} {s : St} {j : Nat} (hj : s.sec = (j : Int)) (h : j < l.length) : ask l s = if (posOk l[j].kind s.inn s.out && posOut l[j].kind s.inn s.out != 0) = true then some ⟨s.sec, posOut l[j].kind s.inn s.out⟩ else none := by
  unfold ask
  rw [if_pos (by omega), show s.sec.toNat = j by omega, List.getElem?_eq_getElem h]
/-- what a route needs -/
def needs (C : Cm) (r : Int) : List Nd := if 0 ≤ r then (match C.rs[r.toNat]? with | none => [] | some q => q.path.filterMap (ask C.l) ++ q.flank) else []
theorem needs_neg {C : Cm} {r : Int} (h : ¬ 0 ≤ r) : needs C r = [] := by unfold needs; rw [if_neg h]
theorem needs_far {C : Cm} {r : Int} (h : 0 ≤ r) (h2 : ¬ r < C.rs.length) : needs C r = [] := by
  unfold needs
  rw [if_pos h, List.getElem?_eq_none (by omega)]
theorem needs_at {C : Cm} {j : Nat} (h : j < C.rs.length) : needs C (j : Int) = C.rs[j].path.filterMap (ask C.l) ++ C.rs[j].flank := by
  unfold needs
  rw [if_pos (by omega), show ((j : Int)).toNat = j by omega, List.getElem?_eq_getElem h]

/-- what asked answers -/
def Asked (l : List Sec) (s : St) (w : World) (e : Ending) (w' : World) : Prop := ∃ (x : Int) (b : Bool), e = .returned (.tuple #[.int .i64 x, .bool b]) ∧ Fr (fun _ => False) w w' ∧ ask l s = if b = true then some ⟨s.sec, x⟩ else none
/-- a row of needs of the call's own -/
def Nds (w0 : Nat) (l : List Nd) (w : World) (v : Value) : Prop := ∃ A c, v = .slice A l.length c ∧ w.ownsRow w0 120 2 (.slice A l.length c) l.length (cellsN l)
theorem Nds.nil (w0 : Nat) (w : World) : Nds w0 [] w (.slice none 0 0) := ⟨none, 0, rfl, World.ownsRow_nil w w0 _ 2⟩
theorem Nds.fr {w0 : Nat} {l : List Nd} {w w1 : World} {v : Value} (h : Nds w0 l w v) (f : Fr (fun _ => False) w w1) : Nds w0 l w1 v := by
  obtain ⟨A, c, rfl, o⟩ := h
  exact ⟨A, c, rfl, wide_fr o f fun _ _ => id⟩
/-- the routes are not too long -/
def Slim (C : Cm) : Prop := ∀ r ∈ C.rs, r.path.length ≤ 1048576 ∧ r.flank.length ≤ 1048576
theorem filterMap_snoc {α β : Type} (f : α → Option β) (l : List α) (k : Nat) (h : k < l.length) : (l.take (k + 1)).filterMap f = (l.take k).filterMap f ++ (match f l[k] with | none => [] | some b => [b]) := by
  rw [List.take_succ_eq_append_getElem h, List.filterMap_append]
  cases hf : f l[k] <;> simp [hf]
theorem filterMap_le {α β : Type} (f : α → Option β) (l : List α) (k : Nat) : ((l.take k).filterMap f).length ≤ k := by
  have := List.length_filterMap_le f (l.take k)
  have := List.length_take_le k l
  omega

theorem cellsN_append (a b : List Nd) : cellsN (a ++ b) = cellsN a ++ cellsN b := by
  unfold cellsN
  rw [List.flatMap_append]
theorem cellsN_one (l : List Nd) : ∀ u ∈ cellsN l, u.oneCell' = true := by
  intro u hu
  obtain ⟨s, _, hs⟩ := List.mem_flatMap.1 hu
  simp at hs
  rcases hs with rfl | rfl <;> rfl
def NdsE (w0 : Nat) (l : List Nd) (w : World) (e : Ending) (w' : World) : Prop := ∃ v, e = .returned v ∧ Nds w0 l w' v ∧ Fr (fun _ => False) w w'
end Go.Proofs.Ytnnacdkijeoeoaa.Mv

namespace Go.Proofs.Ytnnacdkijeoeoaa.Mv
open Go.RowKit

/-- does a step stand in the section? -/
def inB (x : Int) (s : St) : Bool := s.sec == x
/-- the first place at which a test holds; -1, if there is none -/
def firstP {α : Type} (f : α → Bool) : List α → Nat → Int
  | [], _ => -1
  | x :: r, k => if f x = true then k else firstP f r (k + 1)
theorem firstP_ge {α : Type} (f : α → Bool) : ∀ (a : List α) (k : Nat), decide (0 ≤ firstP f a k) = a.any f
  | [], _ => rfl
  | x :: r, k => by
    unfold firstP
    rw [List.any_cons]
    by_cases h : f x = true
    · rw [if_pos h, h, Bool.true_or]
      simp
    · have hf : f x = false := by simpa using h
      rw [if_neg h, hf, Bool.false_or]
      exact firstP_ge f r (k + 1)

end Go.Proofs.Ytnnacdkijeoeoaa.Mv

namespace Go.Proofs.Ytnnacdkijeoeoaa.Mv
open Go.RowKit

/-- the crossings among the first k of the list whose section stands in the path -/
def crsT (path : List St) (cr : List Int) (k : Nat) : List Int := ((List.range k).filter fun i => path.any (inB (cr.getD i 0))).map Int.ofNat
theorem crsT_snoc (path : List St) (cr : List Int) (k : Nat) (h : k < cr.length) : crsT path cr (k + 1) = crsT path cr k ++ (if path.any (inB cr[k]) = true then [(k : Int)] else []) := by
  unfold crsT
  rw [List.range_succ, List.filter_append, List.map_append]
  congr 1
  have e : cr.getD k 0 = cr[k] := by rw [List.getD_eq_getElem?_getD, List.getElem?_eq_getElem h]; rfl
  cases hq : path.any (inB cr[k])
  · rw [List.filter_cons_of_neg (by rw [e, hq]; decide)]
    rfl
  · rw [List.filter_cons_of_pos (by rw [e]; exact hq)]
    rfl
theorem crsT_le (path : List St) (cr : List Int) (k : Nat) : (crsT path cr k).length ≤ k := by
  unfold crsT
  rw [List.length_map]
  have := List.length_filter_le (fun i => path.any (inB (cr.getD i 0))) (List.range k)
  rw [List.length_range] at this
  exact this
/-- the crossings of a route -/
def crs (C : Cm) (r : Int) : List Int := if 0 ≤ r then (match C.rs[r.toNat]? with | none => [] | some q => crsT q.path C.cr C.cr.length) else []
theorem crs_neg {C : Cm} {r : Int} (h : ¬ 0 ≤ r) : crs C r = [] := by unfold crs; rw [if_neg h]
theorem crs_far {C : Cm} {r : Int} (h : 0 ≤ r) (h2 : ¬ r < C.rs.length) : crs C r = [] := by
  unfold crs
  rw [if_pos h, List.getElem?_eq_none (by omega)]
theorem crs_at {C : Cm} {j : Nat} (h : j < C.rs.length) : crs C (j : Int) = crsT C.rs[j].path C.cr C.cr.length := by
  unfold crs
  rw [if_pos (by omega), show ((j : Int)).toNat = j by omega, List.getElem?_eq_getElem h]
/-- a row of numbers of the call's own -/
def Nms (w0 : Nat) (l : List Int) (w : World) (v : Value) : Prop := ∃ A c, v = .slice A l.length c ∧ w.ownsRow w0 3 1 (.slice A l.length c) l.length (l.map (Value.int .i64))
theorem Nms.nil (w0 : Nat) (w : World) : Nms w0 [] w (.slice none 0 0) := ⟨none, 0, rfl, World.ownsRow_nil w w0 _ 1⟩
theorem Nms.fr {w0 : Nat} {l : List Int} {w w1 : World} {v : Value} (h : Nms w0 l w v) (f : Fr (fun _ => False) w w1) : Nms w0 l w1 v := by
  obtain ⟨A, c, rfl, o⟩ := h
  exact ⟨A, c, rfl, wide_fr o f fun _ _ => id⟩
def NmsE (w0 : Nat) (l : List Int) (w : World) (e : Ending) (w' : World) : Prop := ∃ v, e = .returned v ∧ Nms w0 l w' v ∧ Fr (fun _ => False) w w'

end Go.Proofs.Ytnnacdkijeoeoaa.Mv


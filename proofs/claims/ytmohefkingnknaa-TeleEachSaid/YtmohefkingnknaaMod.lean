/- Small laws that the texts of several stages want: 'int(uint(a) % m)' as a natural number, lists of numbers written out, a row of one number, the head and the tail of a slice of numbers, SameInts. New stages import this; seal and seq hold their own copies (the same names: never import both). -/
import Derived.Test.YtmohefkingnknaaApp
import Derived.Laws.BitsAllLaws
import Derived.Deep.QuietTactic
namespace Go.Proofs.Ytmohefkingnknaa
open Go.RowKit

theorem Try.infoI : (Try.prog.info? 3).map (fun i => (i.zero, i.size, i.bytes)) = some (some (.int .i64 0), 1, 8) := by kernel_rfl
theorem umod (a : Int) (m : Nat) (h0 : 0 < m) (h : m ≤ 4611686018427387904) : ∃ n : Nat, wrap64 ((IntKind.u64.wrap a).tmod (m : Int)) = n ∧ n < m := by
  have hw : 0 ≤ IntKind.u64.wrap a := by rw [IntKind.wrap_u64]; omega
  rw [Int.tmod_eq_emod_of_nonneg hw]
  have h1 := Int.emod_nonneg (IntKind.u64.wrap a) (b := (m : Int)) (by omega)
  have h2 := Int.emod_lt_of_pos (IntKind.u64.wrap a) (b := (m : Int)) (by omega)
  generalize IntKind.u64.wrap a % (m : Int) = x at *
  rw [IntWalk.wrap64_in _ ⟨by omega, by omega⟩]
  exact ⟨x.toNat, by omega, by omega⟩
theorem ints_rd (w : World) (l : List Int) : Rd (w.alloc (.cells (l.map (Value.int .i64)).toArray 3)) (some ⟨w.heap.size, 0, none⟩) (l.map (Value.int .i64)) := fun _ =>
  ⟨w.heap.size, 0, rfl, by simp, fun j u hu => by
    rw [World.cell?_alloc_at _ _ _ _ rfl, Nat.zero_add]
    simpa using hu⟩

theorem own_one (w : World) (base : Nat) (t : TypeId) (x : Int) (hb : base ≤ w.heap.size) : (w.alloc (.cells #[.int .i64 x] t)).ownsRow base t 1 (.slice (some ⟨w.heap.size, 0, none⟩) 1 1) 1 [.int .i64 x] :=
  ⟨by simp, .inr ⟨w.heap.size, 1, #[.int .i64 x], rfl, hb, heap_alloc_new w _, Nat.le_refl _, by unfold maxLen; omega, by simp, by simp⟩⟩
theorem tail_slice {w : World} {g o c : Nat} {x : Int} {r : List Int} (h : Rd w (some ⟨g, o, none⟩) ((x :: r).map (Value.int .i64))) (hc : r.length + 1 ≤ c) :
    ∃ A2 c2, (∀ W, (Instr.slice 22 (.slice (some ⟨g, o, none⟩) (r.length + 1) c) (some (.int .i64 1)) none none).run Try.prog W = .ok (.slice A2 r.length c2) W) ∧ Rd w A2 (r.map (Value.int .i64)) := by
  obtain ⟨g', o', hA, hg, hcell⟩ := h (by simp)
  injection hA with hA
  injection hA with e1 e2
  subst e1 e2
  by_cases hc1 : c = 1
  · subst hc1
    have hr : r = [] := List.eq_nil_of_length_eq_zero (by omega)
    subst hr
    refine ⟨some ⟨g, o, none⟩, 0, fun W => ?_, fun h0 => by simp at h0⟩
    go_simp
  · refine ⟨some ⟨g, o + 1, none⟩, c - 1, fun W => ?_, fun h0 => ⟨g, o + 1, rfl, hg, fun j u hu => ?_⟩⟩
    · have h1 : (r.length : Int) + 1 ≤ (c : Int) := by omega
      have h2 : ¬ (r.length : Int) + 1 < 1 := by omega
      go_simp
    · have := hcell (j + 1) u (by rw [List.map_cons, List.getElem?_cons_succ]; exact hu)
      rw [show o + 1 + j = o + (j + 1) by omega]
      exact this

theorem head_slice (g n c : Nat) (h : n + 1 ≤ c) (W : World) : (Instr.slice 22 (.slice (some ⟨g, 0, none⟩) (n + 1) c) none (some (.int .i64 (n : Int))) none).run Try.prog W = .ok (.slice (some ⟨g, 0, none⟩) n c) W := by
  have h1 : (n : Int) ≤ (c : Int) := by omega
  go_simp

set_option maxHeartbeats 800000 in
theorem sameints_any {w : World} {A A' : Option Addr} {c c' : Nat} {l : List Int} (hl : Rd w A (l.map (Value.int .i64))) (hl' : Rd w A' (l.map (Value.int .i64))) (hlen : l.length ≤ 140737488355328) :
    Calls Try.prog 46 #[.slice A l.length c, .slice A' l.length c'] w fun e w' => e = .returned (.bool true) ∧ Fr (fun _ => False) w w' := by
  go_enter Try.func46, Try.ntmps46
  go_wp2
  go_loopw [13] (fun i wr => ∃ k, k ≤ l.length ∧ i = .int .i64 (k : Nat) ∧ Fr (fun _ => False) w wr) (fun i _ => l.length - (intOf i).toNat)
  case atStart => exact ⟨0, Nat.zero_le _, rfl, Fr.refl _ _⟩
  case round =>
    obtain ⟨k, hk, rfl, g1⟩ := hrel
    by_cases hlt : k < l.length
    · obtain ⟨g, o, rfl, hg, hc⟩ := hl (by simp; omega)
      obtain ⟨g', o', rfl, hg', hc'⟩ := hl' (by simp; omega)
      have e1 := hc k (.int .i64 l[k]) (by rw [List.getElem?_map, List.getElem?_eq_getElem hlt]; rfl)
      have e2 := hc' k (.int .i64 l[k]) (by rw [List.getElem?_map, List.getElem?_eq_getElem hlt]; rfl)
      have c1 : wr.cell? ⟨g, o + k, none⟩ = some (.int .i64 l[k]) := (g1.cell (p := ⟨g, o + k, none⟩) hg id).trans e1
      have c2 : wr.cell? ⟨g', o' + k, none⟩ = some (.int .i64 l[k]) := (g1.cell (p := ⟨g', o' + k, none⟩) hg' id).trans e2
      clear hc hc' e1 e2 hl hl'
      generalize l[k] = x at *
      go_wp2
      go_quiet (fail)
      go_wp2
      go_roundw
      case rel => exact ⟨k + 1, by omega, by go_num, g1.drewN nq⟩
      case measure => simp [intOf]; omega
    · go_wp2
      go_ret
      exact ⟨rfl, g1⟩
end Go.Proofs.Ytmohefkingnknaa

/- The walk of RingKeeps: of things put in a row just the first ones stay, as many as there is room for, in their order. -/
import Derived.Test.YtgnbaknmibncmaaLives
namespace Go.Proofs.Ytgnbaknmibncmaa
open Go.RowKit

/-- the cells of a list of numbers -/
def cellsI (l : List Int) : List Value := l.map (Value.int .i64)
theorem cellsI_one (l : List Int) : ∀ u ∈ cellsI l, u.oneCell' = true := by
  intro u hu
  obtain ⟨x, _, rfl⟩ := List.mem_map.1 hu
  rfl
theorem cellsI_length (l : List Int) : (cellsI l).length = l.length := by simp [cellsI]

theorem cellsI_split (l : List Int) (f : Nat) : cellsI l = cellsI (l.take f) ++ cellsI (l.drop f) := by
  unfold cellsI
  rw [← List.map_append, List.take_append_drop]
theorem cellsI_head {l : List Int} {f j : Nat} (hf : f ≤ l.length) (hj : j < f) : cellsI ((l.take f).drop j) = Value.int .i64 l[j] :: cellsI ((l.take f).drop (j + 1)) := by
  rw [List.drop_eq_getElem_cons (by rw [List.length_take]; omega), List.getElem_take]
  rfl
theorem wrap_nat (d : Nat) (h : d ≤ 17592186044416) : wrap64 (0 + (d : Int)) = (d : Nat) := by
  rw [IntWalk.wrap64_in _ ⟨by omega, by omega⟩]
  omega
theorem own_fr0 {w w1 w2 : World} (f1 : Fr (fun _ => False) w w1) (f2 : Fr (fun _ => False) w1 w2) : Fr (fun _ => False) w w2 := f1.trans f2 fun _ _ h => h
/-- a step that touches a queue of the call's own leaves all that was there -/
theorem own_que {w w1 w2 : World} {A : Option Addr} {b : Nat} (f1 : Fr (fun _ => False) w w1) (f2 : Fr (fun j => j = b ∨ blk A = some j) w1 w2) (hb : w.heap.size ≤ b) (hA : ∀ j, blk A = some j → w.heap.size ≤ j) : Fr (fun _ => False) w w2 :=
  Fr.ofBelow ((f1.mono (S' := fun j => w.heap.size ≤ j) fun _ _ h => h.elim).trans f2 fun j _ hj => by
    rcases hj with e | e
    · omega
    · exact hA j e).toBelow
theorem own_new {w w1 : World} {A A' : Option Addr} (f1 : Fr (fun _ => False) w w1) (hA : ∀ j, blk A = some j → w.heap.size ≤ j) (h : blk A' = blk A ∨ ∀ j, blk A' = some j → w1.heap.size ≤ j) : ∀ j, blk A' = some j → w.heap.size ≤ j := fun j hj => by
  rcases h with h | h
  · exact hA j (h ▸ hj)
  · exact Nat.le_trans f1.size (h j hj)

set_option maxRecDepth 100000 in
set_option maxHeartbeats 4000000 in
theorem keeps_walk (a : Int) (ha1 : -9223372036854775808 ≤ a) (ha2 : a ≤ 9223372036854775807) (A2 : Option Addr) (c2 : Nat) (l : List Int) (hl : l.length * 8 ≤ 140737488351232) (hc : l.length ≤ c2) (hc2 : c2 ≤ 9223372036854775807) (w : World) (h : Rd w A2 (cellsI l)) :
    Calls Try.prog 5 #[.int .i64 a, .slice A2 l.length c2] w fun e w' => e = .returned (.bool true) ∧ Below w.heap.size w w' := by
  have KL := lives_any w
  have KM := fun w => makeI a w ha1 ha2
  have hlo := roomN_lo a
  have hhi := roomN_hi a
  have e1 : (if 1 > a then (1 : Int) else a) = max a 1 := by split <;> omega
  have e2 : (if 64 < max a 1 then (64 : Int) else max a 1) = (roomN a : Nat) := by unfold roomN; split <;> omega
  generalize roomN a = k at *
  generalize max a 1 = a1 at *
  go_enter Try.func5, Try.ntmps5
  go_wp2_with fail
  refine KL.mono ?_
  clear KL
  rintro e w1 ⟨rfl, f1⟩
  go_wp2_with fail
  refine (KM _).mono ?_
  clear KM
  rintro e w2 ⟨rfl, q2, f2, z2⟩
  go_wp2_with fail
  refine (capI q2).mono ?_
  rintro e w3 ⟨rfl, rfl⟩
  have hb : w.heap.size ≤ w1.heap.size := f1.size
  obtain ⟨f, d, hf, hfd, hd⟩ : ∃ f d, f = min l.length k ∧ f + d = l.length ∧ (d = 0 ∧ 0 + f ≤ k ∨ 0 < d ∧ k = 0 + f) := ⟨min l.length k, l.length - min l.length k, rfl, by omega, by omega⟩
  have e3 : (if 0 > (l.length : Int) - (k : Int) then (0 : Int) else (l.length : Int) - (k : Int)) = (d : Nat) := by split <;> omega
  have e4 : (if k < l.length then (k : Int) else (l.length : Int)) = (f : Nat) := by split <;> omega
  have f3 := own_fr0 f1 f2
  have K := putI (c2 := c2) q2 (by rw [← cellsI_split l f]; exact h.fr f3 fun _ _ => id) (by rw [cellsI_length, List.length_take]; omega) (cellsI_one _) (by omega) hc2 hd
  rw [wrap_nat d (by omega), hfd, Nat.zero_add, List.nil_append] at K
  clear hf hd q2
  generalize w1.heap.size = b at *
  have HFD := Lib.hid hfd
  have hfl : f ≤ l.length := by omega
  clear hfd
  go_wp2_with fail
  refine K.mono ?_
  clear K
  rintro e w4 ⟨rfl, A4, c4, q4, f4, a4⟩
  have f5 := own_que f3 f4 hb (by intro j hj; cases hj)
  have a5 := own_new (A := none) f3 (by intro j hj; cases hj) a4
  clear f1 f2 f3 f4 a4
  go_wp2_with fail
  refine (lostI q4).mono ?_
  rintro e w5 ⟨rfl, rfl⟩
  go_wp2_with fail
  have hk0 : 0 ≤ f := Nat.zero_le _
  go_loopw [7] (fun i wr => ∃ j A c, j ≤ f ∧ i = .int .i64 (j : Nat) ∧ Que 60 3 1 wr b k A c (f - j) (cellsI ((l.take f).drop j)) (d : Nat) ∧ Fr (fun _ => False) w wr ∧ ∀ i, blk A = some i → w.heap.size ≤ i) (fun i _ => f - (intOf i).toNat)
  case atStart => exact ⟨0, A4, c4, Nat.zero_le _, rfl, q4, f5, a5⟩
  case round =>
    clear q4 f5 a5 e3
    obtain ⟨j, A, c, hj, rfl, q, fr, hA⟩ := hrel
    by_cases hlt : j < f
    · obtain ⟨r, hr⟩ : ∃ r, f = j + 1 + r := ⟨f - (j + 1), by omega⟩
      have hrr : f - j = r + 1 := by omega
      rw [hrr, cellsI_head hfl hlt] at q
      obtain ⟨g, o, rfl, hg, hcl⟩ := h (by rw [cellsI_length]; omega)
      have hjl : j < l.length := by omega
      have hx : (cellsI l)[j]? = some (.int .i64 l[j]) := by unfold cellsI; rw [List.getElem?_map, List.getElem?_eq_getElem hjl]; rfl
      have K := takeI q
      have hx2 := hcl j _ hx
      have hb1 : ((r : Int) == (f : Int) - (j : Int) - 1) = true := by simp; omega
      have hb2 : ((r : Int) != (f : Int) - (j : Int) - 1) = false := by simp; omega
      generalize l[j] = x at *
      generalize hrs : cellsI ((l.take f).drop (j + 1)) = rest at *
      have HRS := Lib.hid hrs
      have HR := Lib.hid hr
      clear hr hrr hrs hcl hx q
      have HH := Lib.hid h
      clear h
      go_wp2_with fail
      refine K.mono ?_
      clear K
      rintro e w6 ⟨rfl, q, f6⟩
      have fr6 := own_que fr f6 hb hA
      have hx3 : w6.cell? ⟨g, o + j, none⟩ = some (.int .i64 x) := (fr6.cell (p := ⟨g, o + j, none⟩) hg id).trans hx2
      clear hx2 f6 fr
      go_wp2_with (go_at_call 16; refine (lenI q).mono ?_; rintro e w7 ⟨rfl, rfl⟩)
      go_roundw
      case rel => exact ⟨j + 1, _, _, by omega, by go_num, by rw [show f - (j + 1) = r by have := HR.out; omega, HRS.out]; exact q, fr6, hA⟩
      case measure => simp [intOf]; omega
    · have hjf : j = f := by omega
      subst hjf
      rw [Nat.sub_self] at q
      go_wp2_with fail
      refine (noneI q).mono ?_
      rintro e w6 ⟨rfl, rfl⟩
      go_wp2_with fail
      refine (lenI q).mono ?_
      rintro e w7 ⟨rfl, rfl⟩
      go_wp2_with fail
      refine (allI q).mono ?_
      rintro e w8 ⟨A8, c8, rfl, _, f8⟩
      go_wp2
      go_ret
      exact ⟨rfl, (own_fr0 fr f8).toBelow0⟩
end Go.Proofs.Ytgnbaknmibncmaa

/- The contracts of package mover's passes and Crossings, with the library's ContainsFunc over steps. -/
import Derived.Test.YtbjbkaphigolnaaMnd
namespace Go.Proofs.Ytbjbkaphigolnaa.Mv
open Go.RowKit

/-- does a step stand in the section? -/
def inB (x : Int) (s : St) : Bool := s.sec == x
/-- the first place at which a test holds; -1, if there is none -/
def firstP {α : Type} (f : α → Bool) : List α → Nat → Int
  | [], _ => -1
  | x :: r, k => if f x = true then k else firstP f r (k + 1)
theorem firstP_ge {α : Type} (f : α → Bool) : ∀ (a : List α) (k : Nat), decide (0 ≤ firstP f a k) = a.any f
  | [], _ => rfl
  | x :: r, k => by
    unfold firstP
    rw [List.any_cons]
    by_cases h : f x = true
    · rw [if_pos h, h, Bool.true_or]
      simp
    · have hf : f x = false := by simpa using h
      rw [if_neg h, hf, Bool.false_or]
      exact firstP_ge f r (k + 1)

theorem instep_any {w : World} {b : Nat} {x : Int} (h : Is w b 3 #[.int .i64 x]) (s : St) :
    Calls Try.prog 30 #[.agg #[.int .i64 s.sec, .int .i64 s.inn, .int .i64 s.out], .pointer (some ⟨b, 0, none⟩)] w fun e w' => e = .returned (.bool (inB x s)) ∧ Fr (fun _ => False) w w' := by
  have HF := Lib.hid ((Fr.refl (fun _ => False) w).alloc (.cells #[.int .i64 s.sec, .int .i64 s.inn, .int .i64 s.out] 65))
  have k1 : (w.alloc (.cells #[.int .i64 s.sec, .int .i64 s.inn, .int .i64 s.out] 65)).cell? ⟨b, 0, none⟩ = some (.int .i64 x) := (h.fr HF.out id).cell 0
  unfold inB
  go_enter Try.func30, Try.ntmps30
  go_wp2
  go_ret
  exact ⟨rfl, HF.out⟩

set_option maxHeartbeats 1000000 in
theorem indexs_any {A : Option Addr} {c b : Nat} {x : Int} {a : List St} (w : World) (ha : Rd w A (cellsT a)) (hal : a.length ≤ 9223372036854775807) (hb : Is w b 3 #[.int .i64 x]) :
    Calls Try.prog 33 #[.slice A a.length c, .func (.func 30) #[] #[.pointer (some ⟨b, 0, none⟩)]] w fun e w' => e = .returned (.int .i64 (firstP (inB x) a 0)) ∧ Fr (fun _ => False) w w' := by
  have K := fun s W (hb : Is W b 3 #[.int .i64 x]) => instep_any hb s
  generalize hT : firstP (inB x) a 0 = T
  have HT := Lib.hid hT
  clear hT
  go_enter Try.func33, Try.ntmps33
  go_wp2_with fail
  go_loopw [8] (fun i wr => ∃ k : Nat, k ≤ a.length ∧ i = .int .i64 (k : Nat) ∧ firstP (inB x) (a.drop k) k = T ∧ Fr (fun _ => False) w wr) (fun i _ => a.length - (intOf i).toNat)
  case atStart => exact ⟨0, Nat.zero_le _, rfl, HT.out, Fr.refl _ _⟩
  case round =>
    clear HT
    obtain ⟨k, hk, rfl, hT, fr⟩ := hrel
    by_cases hlt : k < a.length
    · obtain ⟨g, o, rfl, q0, q1, q2⟩ := rd_st (ha.fr fr fun _ _ => id) hlt
      have KX := K a[k]
      rw [List.drop_eq_getElem_cons hlt, firstP] at hT
      generalize a[k] = y at *
      obtain ⟨y0, y1, y2⟩ := y
      simp only at q0 q1 q2
      cases hx : inB x ⟨y0, y1, y2⟩
      · rw [hx] at hT KX
        rw [if_neg (by decide)] at hT
        have HT := Lib.hid hT
        clear hT hx K
        go_wp2_with fail
        refine (KX _ (hb.fr fr id)).mono ?_
        rintro e w1 ⟨rfl, f1⟩
        go_wp2_with fail
        go_roundw
        case rel => exact ⟨k + 1, by omega, by go_num, HT.out, fr_nil fr f1⟩
        case measure => simp [intOf]; omega
      · rw [hx] at hT KX
        rw [if_pos rfl] at hT
        have HT := Lib.hid hT
        clear hT hx K
        go_wp2_with fail
        refine (KX _ (hb.fr fr id)).mono ?_
        rintro e w1 ⟨rfl, f1⟩
        go_wp2_with fail
        go_ret
        exact ⟨by rw [← HT.out]; rfl, fr_nil fr f1⟩
    · have hk' : k = a.length := by omega
      rw [List.drop_eq_nil_of_le (by omega)] at hT
      have HT := Lib.hid hT
      clear hT K hk'
      go_wp2_with fail
      go_ret
      exact ⟨by rw [← HT.out]; rfl, fr⟩
theorem containss_any {A : Option Addr} {c b : Nat} {x : Int} {a : List St} (w : World) (ha : Rd w A (cellsT a)) (hal : a.length ≤ 9223372036854775807) (hb : Is w b 3 #[.int .i64 x]) :
    Calls Try.prog 29 #[.slice A a.length c, .func (.func 30) #[] #[.pointer (some ⟨b, 0, none⟩)]] w fun e w' => e = .returned (.bool (a.any (inB x))) ∧ Fr (fun _ => False) w w' := by
  have K := indexs_any (c := c) w ha hal hb
  rw [← firstP_ge _ _ 0]
  generalize firstP (inB x) a 0 = T at *
  go_enter Try.func29, Try.ntmps29
  go_wp2_with fail
  refine K.mono ?_
  rintro e w1 ⟨rfl, f1⟩
  go_wp2_with fail
  go_ret
  exact ⟨rfl, f1⟩
theorem passes_any {q : Ro} (x : Int) (w : World) (h : q.Ok w) :
    Calls Try.prog 25 #[q.val, .int .i64 x] w fun e w' => e = .returned (.bool (q.path.any (inB x))) ∧ Fr (fun _ => False) w w' := by
  obtain ⟨en, ex, a1, q1, path, a2, q2, flank, a3, q3, over, sh⟩ := q
  have hp := h.path
  have hl := h.l1
  have hk := h.k1
  unfold Ro.val
  simp only at *
  clear h
  have f0 := ((Fr.refl (fun _ => False) w).alloc (.cells #[.int .i64 en, .int .i64 ex, .slice a1 path.length q1, .slice a2 flank.length q2, .slice a3 over.length q3, .bool sh] 63)).alloc (.cells #[.int .i64 x] 3)
  have i1 := Is.new (w.alloc (.cells #[.int .i64 en, .int .i64 ex, .slice a1 path.length q1, .slice a2 flank.length q2, .slice a3 over.length q3, .bool sh] 63)) 3 #[.int .i64 x]
  have i0 := (Is.new w 63 #[.int .i64 en, .int .i64 ex, .slice a1 path.length q1, .slice a2 flank.length q2, .slice a3 over.length q3, .bool sh]).alloc (.cells #[.int .i64 x] 3)
  have K := containss_any (c := q1) _ (hp.fr f0 fun _ _ => id) (by omega) i1
  have c2 := i0.cell 2
  simp only [World.size_alloc] at K i1
  have HF := Lib.hid f0
  clear f0 i0 i1 hp
  go_enter Try.func25, Try.ntmps25
  go_wp2_with fail
  refine K.mono ?_
  clear K
  rintro e w1 ⟨rfl, f1⟩
  have HF1 := Lib.hid (fr_nil HF.out f1)
  clear f1 c2
  go_wp2_with fail
  go_ret
  exact ⟨rfl, HF1.out⟩
end Go.Proofs.Ytbjbkaphigolnaa.Mv

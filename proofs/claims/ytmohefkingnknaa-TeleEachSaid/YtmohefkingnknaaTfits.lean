/- The contracts of measure.fits and part.right, and of the library's ContainsFunc over parts. -/
import Derived.Test.YtmohefkingnknaaTelem
import Derived.Test.YtmohefkingnknaaFramed
import Derived.Test.YtmohefkingnknaaMod
namespace Go.Proofs.Ytmohefkingnknaa.Te
open Go.RowKit

theorem fr_drewN {w : World} (q : Nat) : Fr (fun _ => False) w (w.drewN q) := (Fr.refl _ _).drewN q
theorem fr_nil {w w1 w2 : World} (h : Fr (fun _ => False) w w1) (k : Fr (fun _ => False) w1 w2) : Fr (fun _ => False) w w2 := h.trans k fun _ _ h => h
theorem rd_int {w : World} {A : Option Addr} {l : List Int} (h : Rd w A (l.map (Value.int .i64))) {j : Nat} (hj : j < l.length) : ∃ g o, A = some ⟨g, o, none⟩ ∧ g < w.heap.size ∧ w.cell? ⟨g, o + j, none⟩ = some (.int .i64 l[j]) := by
  have h0 : (l.map (Value.int .i64))[j]? = some (.int .i64 l[j]) := by rw [List.getElem?_map, List.getElem?_eq_getElem hj]; rfl
  obtain ⟨g, o, rfl, hg, hc⟩ := h (by have := (List.getElem?_eq_some_iff.1 h0).1; omega)
  exact ⟨g, o, rfl, hg, hc _ _ h0⟩

/-- beyond 0 to m -/
def outB (m n : Int) : Bool := decide (n < 0) || decide (m < n)
/-- the first place at which a test holds; -1, if there is none -/
def firstP {α : Type} (f : α → Bool) : List α → Nat → Int
  | [], _ => -1
  | x :: r, k => if f x = true then k else firstP f r (k + 1)
theorem firstP_ge {α : Type} (f : α → Bool) : ∀ (a : List α) (k : Nat), decide (0 ≤ firstP f a k) = a.any f
  | [], _ => rfl
  | x :: r, k => by
    unfold firstP
    rw [List.any_cons]
    by_cases h : f x = true
    · rw [if_pos h, h, Bool.true_or]
      simp
    · have hf : f x = false := by simpa using h
      rw [if_neg h, hf, Bool.false_or]
      exact firstP_ge f r (k + 1)
theorem okL_out (l : List Int) (n : Nat) (m : Int) : okL l n m = (decide (l.length = n) && !l.any (outB m)) := by
  unfold okL
  congr 1
  induction l with
  | nil => rfl
  | cons x r ih =>
    rw [List.all_cons, List.any_cons, ih, Bool.not_or]
    congr 1
    unfold outB
    rw [Bool.not_or, ← decide_not, ← decide_not]
    congr 2
    · simp
    · simp

/-- a measure behind its address -/
def Ms (w : World) (b : Nat) (n : Nat) (m : Int) : Prop := Is w b 103 #[.int .i64 (n : Int), .int .i64 m]

theorem bad_any {w : World} {b n : Nat} {m : Int} (hb : Ms w b n m) (x : Int) :
    Calls Try.prog 75 #[.int .i64 x, .pointer (some ⟨b, 0, none⟩)] w fun e w' => e = .returned (.bool (outB m x)) ∧ Fr (fun _ => False) w w' := by
  have k1 : w.cell? ⟨b, 1, none⟩ = some (.int .i64 m) := (hb.cell 1).trans rfl
  unfold outB
  by_cases h1 : x < 0
  · have e1 : decide (x < 0) = true := by simpa using h1
    rw [e1]
    go_enter Try.func75, Try.ntmps75
    go_wp2
    go_ret
    exact ⟨rfl, Fr.refl _ _⟩
  · have e1 : decide (x < 0) = false := by simpa using h1
    rw [e1]
    by_cases h2 : m < x
    · have e2 : decide (m < x) = true := by simpa using h2
      rw [e2]
      go_enter Try.func75, Try.ntmps75
      go_wp2
      go_ret
      exact ⟨rfl, Fr.refl _ _⟩
    · have e2 : decide (m < x) = false := by simpa using h2
      rw [e2]
      go_enter Try.func75, Try.ntmps75
      go_wp2
      go_ret
      exact ⟨rfl, Fr.refl _ _⟩

set_option maxHeartbeats 1000000 in
theorem indexi_any {A : Option Addr} {c b n : Nat} {m : Int} {a : List Int} (w : World) (ha : Rd w A (a.map (Value.int .i64))) (hal : a.length ≤ 9223372036854775807) (hb : Ms w b n m) :
    Calls Try.prog 77 #[.slice A a.length c, .func (.func 75) #[] #[.pointer (some ⟨b, 0, none⟩)]] w fun e w' => e = .returned (.int .i64 (firstP (outB m) a 0)) ∧ Fr (fun _ => False) w w' := by
  have K := fun x W (hb : Ms W b n m) => bad_any hb x
  generalize hT : firstP (outB m) a 0 = T
  have HT := Lib.hid hT
  clear hT
  go_enter Try.func77, Try.ntmps77
  go_wp2_with fail
  go_loopw [8] (fun i wr => ∃ k : Nat, k ≤ a.length ∧ i = .int .i64 (k : Nat) ∧ firstP (outB m) (a.drop k) k = T ∧ Fr (fun _ => False) w wr) (fun i _ => a.length - (intOf i).toNat)
  case atStart => exact ⟨0, Nat.zero_le _, rfl, HT.out, Fr.refl _ _⟩
  case round =>
    clear HT
    obtain ⟨k, hk, rfl, hT, fr⟩ := hrel
    by_cases hlt : k < a.length
    · obtain ⟨g, o, rfl, _, q0⟩ := rd_int (ha.fr fr fun _ _ => id) hlt
      have KX := K a[k]
      rw [List.drop_eq_getElem_cons hlt, firstP] at hT
      generalize a[k] = x at *
      cases hx : outB m x
      · rw [hx] at hT KX
        rw [if_neg (by decide)] at hT
        have HT := Lib.hid hT
        clear hT hx K
        go_wp2_with fail
        refine (KX _ (hb.fr fr id)).mono ?_
        rintro e w1 ⟨rfl, f1⟩
        go_wp2_with fail
        go_roundw
        case rel => exact ⟨k + 1, by omega, by go_num, HT.out, fr_nil fr f1⟩
        case measure => simp [intOf]; omega
      · rw [hx] at hT KX
        rw [if_pos rfl] at hT
        have HT := Lib.hid hT
        clear hT hx K
        go_wp2_with fail
        refine (KX _ (hb.fr fr id)).mono ?_
        rintro e w1 ⟨rfl, f1⟩
        go_wp2_with fail
        go_ret
        exact ⟨by rw [← HT.out]; rfl, fr_nil fr f1⟩
    · have hk' : k = a.length := by omega
      rw [List.drop_eq_nil_of_le (by omega)] at hT
      have HT := Lib.hid hT
      clear hT K hk'
      go_wp2_with fail
      go_ret
      exact ⟨by rw [← HT.out]; rfl, fr⟩
theorem containsi_any {A : Option Addr} {c b n : Nat} {m : Int} {a : List Int} (w : World) (ha : Rd w A (a.map (Value.int .i64))) (hal : a.length ≤ 9223372036854775807) (hb : Ms w b n m) :
    Calls Try.prog 74 #[.slice A a.length c, .func (.func 75) #[] #[.pointer (some ⟨b, 0, none⟩)]] w fun e w' => e = .returned (.bool (a.any (outB m))) ∧ Fr (fun _ => False) w w' := by
  have K := indexi_any (c := c) w ha hal hb
  rw [← firstP_ge _ _ 0]
  generalize firstP (outB m) a 0 = T at *
  go_enter Try.func74, Try.ntmps74
  go_wp2_with fail
  refine K.mono ?_
  rintro e w1 ⟨rfl, f1⟩
  go_wp2_with fail
  go_ret
  exact ⟨rfl, f1⟩
end Go.Proofs.Ytmohefkingnknaa.Te

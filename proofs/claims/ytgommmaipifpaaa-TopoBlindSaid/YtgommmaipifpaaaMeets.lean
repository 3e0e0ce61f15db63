/- The walk of TopoMeets: on a right plan two ends meet one another or none. -/
import Derived.Test.YtgommmaipifpaaaLives
import Derived.Test.YtgommmaipifpaaaPlan
namespace Go.Proofs.Ytgommmaipifpaaa
open Go.RowKit

theorem check_parts {l : List Sec} {js : List Jo} (h : checkB l js = true) : (1 ≤ l.length ∧ l.length ≤ 16 ∧ js.length ≤ 24) ∧ sectionsB l = true ∧ jointsB l js = true := by
  unfold checkB at h
  rw [Bool.and_eq_true, Bool.and_eq_true, Bool.and_eq_true] at h
  exact ⟨sizes_short h.1, h.2.1, h.2.2.1⟩
theorem isEnd_sec {l : List Sec} {s e : Int} (h : isEndB l s e = true) : ∃ k : Nat, s = k ∧ k < l.length := by
  unfold isEndB at h
  rw [Bool.and_eq_true] at h
  exact isSecB_true h.1

set_option maxRecDepth 100000 in
set_option maxHeartbeats 8000000 in
theorem meets_walk {A1 A2 : Option Addr} {c1 c2 : Nat} {l : List Sec} {js : List Jo} (w : World) (h1 : Rd w A1 (cellsS l)) (h2 : Rd w A2 (cellsJ js)) (hl : l.length ≤ 9223372036854775807) (hj : js.length ≤ c2) (hc2 : c2 ≤ 9223372036854775807) :
    Calls Try.prog 6 #[.agg #[.slice A1 l.length c1, .slice A2 js.length c2]] w fun x w' => x = .returned (.bool true) ∧ Below w.heap.size w w' := by
  have KL := fun w => lives_any w
  have KC := fun w h h' => check_any (A1 := A1) (A2 := A2) (c1 := c1) (c2 := c2) (l := l) (js := js) w h h' hl hj hc2
  have is0 := Is.new w 25 #[.slice A1 l.length c1, .slice A2 js.length c2]
  have f0 := (Fr.refl (fun _ => False) w).alloc (.cells #[.slice A1 l.length c1, .slice A2 js.length c2] 25)
  go_enter Try.func6, Try.ntmps6
  go_wp2_with fail
  refine (KL _).mono ?_
  clear KL
  rintro x w1 ⟨rfl, f1⟩
  have is1 := is0.fr f1 id
  have g1 := fr_nil f0 f1
  have r1 := h1.fr g1 fun _ _ => id
  have r2 := h2.fr g1 fun _ _ => id
  have k0 := is1.cell 0
  have k1 := is1.cell 1
  clear is0 f0 f1
  go_wp2_with fail
  refine (KC _ r1 r2).mono ?_
  clear KC
  rintro x w2 ⟨rfl, f2⟩
  have is2 := is1.fr f2 id
  have g2 := fr_nil g1 f2
  clear is1 g1 r1 r2 k0 k1 f2
  have k0 := is2.cell 0
  have k1 := is2.cell 1
  cases hc : checkB l js
  · rw [show errOf false = 6 from rfl]
    go_wp2_with fail
    go_ret
    exact ⟨rfl, g2.toBelow0⟩
  · rw [show errOf true = 0 from rfl]
    obtain ⟨hn, _, hjo⟩ := check_parts hc
    obtain ⟨hn1, hn2, hn3⟩ := hn
    have HJ := Lib.hid hjo
    clear hc hjo
    go_wp2_with fail
    go_loopw [23] (fun t wr => ∃ j : Nat, j ≤ l.length ∧ t = .int .i64 (j : Nat) ∧ Fr (fun _ => False) w2 wr) (fun t _ => l.length - (intOf t).toNat)
    case atStart => exact ⟨0, Nat.zero_le _, rfl, Fr.refl _ _⟩
    case round =>
      obtain ⟨j, hjl, rfl, fr⟩ := hrel
      by_cases hlt : j < l.length
      · have gr := fr_nil g2 fr
        obtain ⟨g, o, rfl, d0, d1, d2⟩ := rd_sec (h1.fr gr fun _ _ => id) hlt
        generalize l[j] = v at *
        obtain ⟨k, oc, ln⟩ := v
        simp only at *
        have KE := fun w => ends_any k w
        have hbd := ends_bd k
        generalize endsM k = n at *
        have H1 := Lib.hid h1
        clear h1
        go_wp2_with fail
        obtain ⟨wo, hwo⟩ : ∃ wo : World, wo = wr.alloc (.cells #[.int .i64 k, .int .i64 oc, .int .i64 ln] 28) := ⟨_, rfl⟩
        have iso : Is wo wr.heap.size 28 #[.int .i64 k, .int .i64 oc, .int .i64 ln] := by rw [hwo]; exact Is.new _ _ _
        have fo : Fr (fun _ => False) w2 wo := by rw [hwo]; exact fr.alloc _
        rw [← hwo]
        clear hwo d0 d1 d2 gr
        go_loopw [5] (fun t wi => ∃ e : Nat, (e : Int) ≤ n ∧ t = .int .i64 (e : Nat) ∧ Fr (fun _ => False) wo wi) (fun t _ => 4 - (intOf t).toNat)
        case atStart => exact ⟨0, by omega, rfl, Fr.refl _ _⟩
        case round =>
          obtain ⟨e, he, rfl, fi⟩ := hrel
          have foi := fr_nil fo fi
          have isi := iso.fr fi id
          have ispi := is2.fr foi id
          have rji := h2.fr (fr_nil g2 foi) fun _ _ => id
          have q0 := isi.cell 0
          have p0 := ispi.cell 0
          have p1 := ispi.cell 1
          by_cases hle : (e : Int) < n
          · have KN := fun w h => next_any (c := c2) (j : Nat) (e : Nat) w (l := js) (A := A2) h (by omega)
            cases hok : nextOk js (j : Nat) (e : Nat)
            · rw [hok] at KN
              generalize nextS js (j : Nat) (e : Nat) = t at *
              generalize nextE js (j : Nat) (e : Nat) = f at *
              clear hok
              go_wp2_with fail
              refine (KE _).mono ?_
              rintro x w3 ⟨rfl, rfl⟩
              go_wp2_with fail
              refine (KN _ rji).mono ?_
              clear KN
              rintro x w4 ⟨rfl, f4⟩
              go_wp2_with fail
              go_roundw
              case rel => exact ⟨e + 1, by omega, by go_num, fr_nil fi f4⟩
              case measure => simp [intOf]; omega
            · obtain ⟨b1, b2, b3, b4, b5⟩ := next_back HJ.out hok
              rw [hok] at KN
              have KM := fun w h => next_any (c := c2) (nextS js (j : Nat) (e : Nat)) (nextE js (j : Nat) (e : Nat)) w (l := js) (A := A2) h (by omega)
              rw [b1, b2, b3] at KM
              generalize nextS js (j : Nat) (e : Nat) = t at *
              generalize nextE js (j : Nat) (e : Nat) = f at *
              obtain ⟨tn, rfl, htn⟩ := isEnd_sec b5
              have e1 : ((tn : Int) == (j : Int)) = false := by simp; omega
              clear hok b1 b2 b3 b4 b5
              go_wp2_with fail
              refine (KE _).mono ?_
              rintro x w3 ⟨rfl, rfl⟩
              go_wp2_with fail
              refine (KN _ rji).mono ?_
              clear KN
              rintro x w4 ⟨rfl, f4⟩
              have isp4 := ispi.fr f4 id
              have rj4 := rji.fr f4 fun _ _ => id
              clear p0 p1 q0
              have p1 := isp4.cell 1
              go_wp2_with fail
              refine (KM _ rj4).mono ?_
              clear KM
              rintro x w5 ⟨rfl, f5⟩
              have isp5 := isp4.fr f5 id
              clear p1
              have p0 := isp5.cell 0
              go_wp2_with fail
              go_roundw
              case rel => exact ⟨e + 1, by omega, by go_num, fr_nil (fr_nil fi f4) f5⟩
              case measure => simp [intOf]; omega
          · have hge : decide ((e : Int) < n) = false := by simp; omega
            clear hle
            go_wp2_with fail
            refine (KE _).mono ?_
            rintro x w3 ⟨rfl, rfl⟩
            go_wp2_with fail
            go_roundw
            case rel => exact ⟨j + 1, by omega, by go_num, foi⟩
            case measure => simp [intOf]; omega
      · have hjl : j = l.length := by omega
        subst hjl
        go_wp2_with fail
        go_ret
        exact ⟨rfl, (fr_nil g2 fr).toBelow0⟩
end Go.Proofs.Ytgommmaipifpaaa

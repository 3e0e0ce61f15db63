/- The document's image: at, oc, Alive, Lost. -/
import Derived.Test.YtfmhfngilimhjaaJm
namespace Go.Proofs.Ytfmhfngilimhjaa.Im
open Go.RowKit Li

/-- the place of a number in a list, counted from k on; -1: none -/
def atL (n : Int) : List Int → Nat → Int
  | [], _ => -1
  | x :: l, k => if x = n then (k : Int) else atL n l (k + 1)
theorem atL_drop {l : List Int} {i : Nat} (h : i < l.length) (n : Int) : atL n (l.drop i) i = if l[i] = n then (i : Int) else atL n (l.drop (i + 1)) (i + 1) := by
  rw [List.drop_eq_getElem_cons h, atL]
set_option maxHeartbeats 1000000 in
theorem at_any {w : World} {A : Option Addr} {c : Nat} {l : List Int} (h : Rd w A (l.map (Value.int .i64))) (hl : l.length ≤ 17592186044416) (n : Int) :
    Calls Try.prog 53 #[.slice A l.length c, .int .i64 n] w fun e w' => e = .returned (.int .i64 (atL n l 0)) ∧ w' = w := by
  have HR := Lib.hid h
  have hl9 : (l.length : Int) ≤ 17592186044416 := by omega
  obtain ⟨r, hr⟩ : ∃ r, r = atL n l 0 := ⟨_, rfl⟩
  have HE := Lib.hid hr
  rw [← hr]
  clear h hr
  go_enter Try.func53, Try.ntmps53
  go_wp2_with fail
  go_loopw [9] (fun v9 wr => wr = w ∧ ∃ i : Nat, i ≤ l.length ∧ v9 = .int .i64 (i : Nat) ∧ r = atL n (l.drop i) i) (fun v _ => l.length - (intOf v).toNat)
  case atStart => exact ⟨rfl, 0, Nat.zero_le _, rfl, HE.out⟩
  case round =>
    obtain ⟨rfl, i, hi, rfl, hd⟩ := hrel
    by_cases hlt : i < l.length
    · obtain ⟨g, o, rfl, _, c0⟩ := Te.rd_int HR.out hlt
      have hii : (i : Int) < (l.length : Int) := by omega
      rw [atL_drop hlt] at hd
      generalize l[i] = x at *
      by_cases hx : x = n
      · rw [if_pos hx] at hd
        have ex : (x == n) = true := by simpa using hx
        have HD := Lib.hid hd
        clear hd hx
        go_wp2_with fail
        go_ret
        rw [HD.out]
        exact ⟨rfl, rfl⟩
      · rw [if_neg hx] at hd
        have ex : (x == n) = false := by simpa using hx
        have HD := Lib.hid hd
        clear hd hx
        go_wp2_with fail
        go_roundw
        case rel => exact ⟨by first | trivial | rfl, i + 1, by omega, by go_num, HD.out⟩
        case measure => simp [intOf]; omega
    · have hii : ¬ (i : Int) < (l.length : Int) := by omega
      have hie : i = l.length := by omega
      rw [hie, List.drop_length] at hd
      have HD := Lib.hid (hd : r = -1)
      clear hd hie
      go_wp2_with fail
      go_ret
      rw [HD.out]
      exact ⟨rfl, rfl⟩

/-- the controller of a section; -1: none -/
def ocF (l : List Te.Sec) (s : Int) : Int := if 0 ≤ s then (match l[s.toNat]? with | some x => x.oc | none => -1) else -1
section
variable {w : World} {base n : Nat} {p : Jp} {C : Te.Cf} {ks : List Kr}
theorem oc_any (h : Jm w base n p C ks) (hC : C.Ok w) (s : Int) :
    Calls Try.prog 54 #[.pointer (some ⟨p.b, 0, none⟩), .int .i64 s] w fun e w' => e = .returned (.int .i64 (ocF C.l s)) ∧ w' = w := by
  obtain ⟨p0, -⟩ := twelve h.is
  by_cases h0 : 0 ≤ s
  · obtain ⟨m, rfl⟩ : ∃ m : Nat, s = (m : Int) := ⟨s.toNat, by omega⟩
    have d0 : decide ((m : Int) < 0) = false := decide_eq_false (by omega)
    by_cases h1 : m < C.l.length
    · obtain ⟨g, o, hA, _, _, c1, _⟩ := Te.rd_sec hC.secs h1
      have d1 : decide ((C.l.length : Int) ≤ (m : Int)) = false := decide_eq_false (by omega)
      have e : ocF C.l (m : Int) = C.l[m].oc := by
        unfold ocF
        rw [if_pos h0, Int.toNat_natCast, List.getElem?_eq_getElem h1]
      rw [e]
      have hm1 : (m : Int) < (C.l.length : Int) := by omega
      rw [hA] at p0
      generalize C.l[m].oc = q at *
      clear h hC e hA
      go_enter Try.func54, Try.ntmps54
      go_wp2_with fail
      go_ret
      exact ⟨rfl, rfl⟩
    · have d1 : decide ((C.l.length : Int) ≤ (m : Int)) = true := decide_eq_true (by omega)
      have e : ocF C.l (m : Int) = -1 := by
        unfold ocF
        rw [if_pos h0, Int.toNat_natCast, List.getElem?_eq_none (by omega)]
      rw [e]
      have hm1 : ¬ (m : Int) < (C.l.length : Int) := by omega
      clear h hC e
      go_enter Try.func54, Try.ntmps54
      go_wp2_with fail
      go_ret
      exact ⟨rfl, rfl⟩
  · have d0 : decide (s < 0) = true := decide_eq_true (by omega)
    have e : ocF C.l s = -1 := by
      unfold ocF
      rw [if_neg h0]
    rw [e]
    clear h hC e
    go_enter Try.func54, Try.ntmps54
    go_wp2_with fail
    go_ret
    exact ⟨rfl, rfl⟩

/-- did the controller say something that is fresh? -/
def alF (ks : List Kr) (age now oc : Int) : Bool := if 0 ≤ oc then (match ks[oc.toNat]? with | some k => k.m.fresh now age | none => false) else false
theorem jalive_any (h : Jm w base n p C ks) (hz : ∀ k ∈ ks, -1 ≤ k.z) (now oc : Int) (hn : now ≤ 9223372036854775807) :
    Calls Try.prog 18 #[.pointer (some ⟨p.b, 0, none⟩), .int .i64 now, .int .i64 oc] w fun e w' => e = .returned (.bool (alF ks C.t.age now oc)) ∧ Fr (fun _ => False) w w' := by
  obtain ⟨_, _, _, _, _, p5, _, _, _, _, _, p11⟩ := twelve h.is
  have h4 := h.h4
  by_cases h0 : 0 ≤ oc
  · have d0 : decide (0 ≤ oc) = true := decide_eq_true h0
    by_cases h1 : oc < 4
    · obtain ⟨j, rfl⟩ : ∃ j : Nat, oc = (j : Int) := ⟨oc.toNat, by omega⟩
      have hj : j < ks.length := by omega
      have d1 : decide ((j : Int) < 4) = true := decide_eq_true h1
      have zc := h.zcell hj
      have hzj := hz _ (List.getElem_mem hj)
      have e : alF ks C.t.age now (j : Int) = (decide (ks[j].z ≠ -1) && (decide (ks[j].z ≤ now) && decide (now - ks[j].z ≤ C.t.age))) := by
        unfold alF
        rw [if_pos h0, Int.toNat_natCast, List.getElem?_eq_getElem hj]
        rfl
      rw [e]
      have hj4 : (j : Int) < 4 := h1
      generalize ks[j].z = z at *
      clear e h hz
      by_cases q0 : z = -1
      · subst q0
        go_enter Try.func18, Try.ntmps18
        go_wp2_with fail
        go_big_quiet (fail)
        go_wp2_with fail
        go_ret
        exact ⟨rfl, (Fr.refl _ _).drewN _⟩
      · have e0 : decide (0 ≤ z) = true := decide_eq_true (by omega)
        have e1 : decide (z ≠ -1) = true := by simpa using q0
        rw [e1, Bool.true_and]
        by_cases q1 : z ≤ now
        · have e2 : decide (z ≤ now) = true := decide_eq_true q1
          have hw : wrap64 (now - z) = now - z := IntWalk.wrap64_in _ ⟨by omega, by omega⟩
          rw [e2, Bool.true_and]
          obtain ⟨q, hq⟩ : ∃ q, q = decide (now - z ≤ C.t.age) := ⟨_, rfl⟩
          rw [← hq]
          have hq' := hq.symm
          clear hq q0 q1 e1
          go_enter Try.func18, Try.ntmps18
          go_wp2_with fail
          go_big_quiet (fail)
          go_wp2_with fail
          go_ret
          exact ⟨rfl, (Fr.refl _ _).drewN _⟩
        · have e2 : decide (z ≤ now) = false := decide_eq_false q1
          rw [e2, Bool.false_and]
          clear q0 q1 e1
          go_enter Try.func18, Try.ntmps18
          go_wp2_with fail
          go_big_quiet (fail)
          go_wp2_with fail
          go_ret
          exact ⟨rfl, (Fr.refl _ _).drewN _⟩
    · have d1 : decide (oc < 4) = false := decide_eq_false h1
      have e : alF ks C.t.age now oc = false := by
        unfold alF
        rw [if_pos h0, List.getElem?_eq_none (by omega)]
      rw [e]
      clear e h hz
      go_enter Try.func18, Try.ntmps18
      go_wp2_with fail
      go_big_quiet (fail)
      go_wp2_with fail
      go_ret
      exact ⟨rfl, (Fr.refl _ _).drewN _⟩
  · have d0 : decide (0 ≤ oc) = false := decide_eq_false h0
    have e : alF ks C.t.age now oc = false := by
      unfold alF
      rw [if_neg h0]
    rw [e]
    clear e h hz
    go_enter Try.func18, Try.ntmps18
    go_wp2_with fail
    go_big_quiet (fail)
    go_wp2_with fail
    go_ret
    exact ⟨rfl, (Fr.refl _ _).drewN _⟩
end
end Go.Proofs.Ytfmhfngilimhjaa.Im

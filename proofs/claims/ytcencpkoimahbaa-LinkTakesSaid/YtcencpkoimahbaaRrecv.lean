/- The contracts of the document's own receiver (package ballastref09): New, fresh, Alive, Lost. -/
import Derived.Test.YtcencpkoimahbaaRecvt
import Derived.Test.YtcencpkoimahbaaRtread
import Derived.Test.YtcencpkoimahbaaQref
import Derived.Test.YtcencpkoimahbaaApp
import Derived.Test.YtcencpkoimahbaaWide
namespace Go.Proofs.Ytcencpkoimahbaa
open Go.RowKit Li

/-- The receiver that took telegrams of these numbers, the last one at this stamp. -/
def toR (peer age last : Int) (ns : List Int) : R := ⟨decide (0 < ns.length), (Sq.pairL ns).2, (Sq.pairL ns).1, peer, age, last⟩
theorem toR_new (peer age : Int) : R.new peer age = toR peer age (-1) [] := rfl
theorem toR_add (peer age last s n : Int) (ns : List Int) : ({ toR peer age last ns with last := s } : R).add n = toR peer age s (ns ++ [n]) := by
  cases ns with
  | nil => rfl
  | cons x r =>
    have h := Sq.pair_snoc x r n
    unfold toR
    rw [h]
    generalize Sq.pairL (x :: r) = p
    obtain ⟨a, b⟩ := p
    unfold R.add Sq.lostStep
    simp only
    split <;> rename_i hb
    · split <;> simp
    · simp at hb
theorem toR_last (peer age last : Int) (ns : List Int) : (toR peer age last ns).last = last := rfl

/-- The document's receiver lies at block b, the row of its numbers is the call's own; it took n at most. -/
def Mv (w : World) (base b n : Nat) (r : R) : Prop := ∃ (ns : List Int) (v : Value), r = toR r.peer r.age r.last ns ∧ ns.length ≤ n ∧ Is w b 44 #[.int .i64 r.peer, .int .i64 r.age, .int .i64 r.last, v] ∧ w.ownsRow base 3 1 v ns.length (ns.map (Value.int .i64))
theorem Mv.fr {w w1 : World} {base b n : Nat} {r : R} {S : Nat → Prop} (h : Mv w base b n r) (f : Fr S w w1) (hb : ¬ S b) (hn : ∀ k, S k → ∃ t cs, Is w k t cs ∧ t ≠ 3) : Mv w1 base b n r := by
  obtain ⟨ns, v, h1, h2, h3, h4⟩ := h
  refine ⟨ns, v, h1, h2, h3.fr f hb, own_fr h4 f fun k hk hs => ?_⟩
  obtain ⟨t, cs, hi, ht⟩ := hn k hs
  exact wide_is_ne h4 hi (fun e => ht e.symm) hk
theorem Mv.fr0 {w w1 : World} {base b n : Nat} {r : R} (h : Mv w base b n r) (f : Fr (fun _ => False) w w1) : Mv w1 base b n r := h.fr f id fun _ h => h.elim
theorem Mv.lost {w : World} {base b n : Nat} {r : R} (h : Mv w base b n r) : 0 ≤ r.lost ∧ r.lost ≤ (n : Int) * 32767 := by
  obtain ⟨ns, v, h1, h2, _⟩ := h
  have := Sq.pair_bd ns
  rw [h1]
  show 0 ≤ (Sq.pairL ns).1 ∧ (Sq.pairL ns).1 ≤ _
  omega

theorem rnew_any (peer age : Int) (w : World) (base : Nat) :
    Calls Try.prog 16 #[.int .i64 peer, .int .i64 age] w fun e w' => e = .returned (.pointer (some ⟨w.heap.size, 0, none⟩)) ∧ Mv w' base w.heap.size 0 (R.new peer age) ∧ Fr (fun _ => False) w w' := by
  have i1 : Is (w.alloc (.cells #[.int .i64 peer, .int .i64 age, .int .i64 (-1), .slice none 0 0] 44)) w.heap.size 44 #[.int .i64 peer, .int .i64 age, .int .i64 (-1), .slice none 0 0] := Is.new w _ _
  have f1 := (Fr.refl (fun _ => False) w).alloc (.cells #[.int .i64 peer, .int .i64 age, .int .i64 (-1), .slice none 0 0] 44)
  have m1 : Mv (w.alloc (.cells #[.int .i64 peer, .int .i64 age, .int .i64 (-1), .slice none 0 0] 44)) base w.heap.size 0 (R.new peer age) := ⟨[], .slice none 0 0, rfl, Nat.le_refl _, i1, World.ownsRow_nil _ _ _ _⟩
  have HM := Lib.hid m1
  have HF := Lib.hid f1
  clear m1 f1 i1
  go_enter Try.func16, Try.ntmps16
  go_wp2
  go_ret
  exact ⟨rfl, HM.out, HF.out⟩

def freshB (now stamp age : Int) : Bool := decide (0 ≤ now) && (decide (stamp ≤ now) && decide (now - stamp ≤ age))
theorem fresh_any (now stamp age : Int) (w : World) (hn : now ≤ 9223372036854775807) (hs : 0 ≤ stamp) :
    Calls Try.prog 45 #[.int .i64 now, .int .i64 stamp, .int .i64 age] w fun e w' => e = .returned (.bool (freshB now stamp age)) ∧ w' = w := by
  have HA : Hid (freshB now stamp age = (decide (0 ≤ now) && (decide (stamp ≤ now) && decide (now - stamp ≤ age)))) := Lib.hid rfl
  by_cases h0 : 0 ≤ now
  · by_cases h1 : stamp ≤ now
    · have d0 : decide (0 ≤ now) = true := decide_eq_true h0
      have d1 : decide (stamp ≤ now) = true := decide_eq_true h1
      have hw : wrap64 (now - stamp) = now - stamp := IntWalk.wrap64_in _ ⟨by omega, by omega⟩
      have HE : Hid (freshB now stamp age = decide (now - stamp ≤ age)) := Lib.hid (by rw [HA.out, decide_eq_true h0, decide_eq_true h1]; rfl)
      clear HA
      go_enter Try.func45, Try.ntmps45
      go_wp2
      go_ret
      exact ⟨by rw [HE.out]; rfl, rfl⟩
    · have d0 : decide (0 ≤ now) = true := decide_eq_true h0
      have d1 : decide (stamp ≤ now) = false := decide_eq_false h1
      have HE : Hid (freshB now stamp age = false) := Lib.hid (by rw [HA.out, decide_eq_false h1, Bool.false_and, Bool.and_false])
      clear HA
      go_enter Try.func45, Try.ntmps45
      go_wp2
      go_ret
      exact ⟨by rw [HE.out]; rfl, rfl⟩
  · have d0 : decide (0 ≤ now) = false := decide_eq_false h0
    have HE : Hid (freshB now stamp age = false) := Lib.hid (by rw [HA.out, decide_eq_false h0, Bool.false_and])
    clear HA
    go_enter Try.func45, Try.ntmps45
    go_wp2
    go_ret
    exact ⟨by rw [HE.out]; rfl, rfl⟩

theorem ralive_any {w : World} {base b n : Nat} {r : R} (h : Mv w base b n r) (now : Int) (hn : now ≤ 9223372036854775807) :
    Calls Try.prog 21 #[.pointer (some ⟨b, 0, none⟩), .int .i64 now] w fun e w' => e = .returned (.bool (r.alive now)) ∧ Fr (fun _ => False) w w' := by
  obtain ⟨ns, v, _, _, h3, _⟩ := h
  have c1 : w.cell? ⟨b, 1, none⟩ = some (.int .i64 r.age) := h3.cell 1
  have c2 : w.cell? ⟨b, 2, none⟩ = some (.int .i64 r.last) := h3.cell 2
  have x1 := cell_fro c1
  have x2 := cell_fro c2
  clear h3 c1 c2
  have HA : Hid (r.alive now = (decide (0 ≤ r.last) && (decide (r.last ≤ now) && decide (now - r.last ≤ r.age)))) := Lib.hid rfl
  generalize r.last = l at *
  generalize r.age = a at *
  by_cases h0 : 0 ≤ l
  · have d0 : decide (0 ≤ l) = true := decide_eq_true h0
    have KF := fun (u : Fro w) => (fresh_any now l a u.w hn h0).mono fun e w' (k : e = .returned (.bool (freshB now l a)) ∧ w' = u.w) => (⟨k.1, k.2.symm⟩ : e = .returned (.bool (freshB now l a)) ∧ u.w = w')
    have HE : Hid (r.alive now = freshB now l a) := Lib.hid (by
      rw [HA.out, d0, Bool.true_and]
      unfold freshB
      by_cases h1 : l ≤ now
      · rw [decide_eq_true (show 0 ≤ now by omega), Bool.true_and]
      · rw [decide_eq_false h1, Bool.false_and, Bool.and_false])
    generalize freshB now l a = x at *
    clear HA
    go_enter Try.func21, Try.ntmps21
    go_wp2_with fail
    refine region_fro (by kernel_rfl) (by kernel_rfl) ?_
    repeat (go_big_quiet_step (first | (go_at_call 45; with_reducible exact call_fro_same (KF _))))
    refine wpQuiet_nil ?_
    rintro _ ⟨⟨w2, f2⟩, rfl⟩
    go_wp2_with fail
    go_ret
    exact ⟨by rw [HE.out]; rfl, f2⟩
  · have d0 : decide (0 ≤ l) = false := decide_eq_false h0
    have HE : Hid (r.alive now = false) := Lib.hid (by rw [HA.out, decide_eq_false h0, Bool.false_and])
    clear HA
    go_enter Try.func21, Try.ntmps21
    go_wp2_with fail
    refine region_fro (by kernel_rfl) (by kernel_rfl) ?_
    repeat (go_big_quiet_step (fail))
    refine wpQuiet_nil ?_
    rintro _ ⟨⟨w2, f2⟩, rfl⟩
    go_wp2_with fail
    go_ret
    exact ⟨by rw [HE.out]; rfl, f2⟩
theorem rlostr_any {w : World} {base b n : Nat} {r : R} (h : Mv w base b n r) (hn : n ≤ 17592186044416) :
    Calls Try.prog 23 #[.pointer (some ⟨b, 0, none⟩)] w fun e w' => e = .returned (.int .i64 r.lost) ∧ w' = w := by
  obtain ⟨ns, v, h1, h2, h3, h4⟩ := h
  obtain ⟨A, c, rfl, _, _⟩ := own_form h4
  have c3 : w.cell? ⟨b, 3, none⟩ = some (.slice A ns.length c) := h3.cell 3
  have K := Sq.rlost_any (c := c) (own_rd h4) (by omega)
  have HL : Hid (r.lost = Sq.lostL ns) := Lib.hid (by rw [h1, ← Sq.pair_lost]; rfl)
  generalize Sq.lostL ns = x at *
  clear h1 h2 h3 h4
  go_enter Try.func23, Try.ntmps23
  go_wp2_with fail
  refine K.mono ?_
  rintro e w1 ⟨rfl, rfl⟩
  go_wp2_with fail
  go_ret
  exact ⟨by rw [HL.out]; rfl, rfl⟩
end Go.Proofs.Ytcencpkoimahbaa

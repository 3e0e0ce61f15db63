/- How large what is read can be (plain mathematics). -/
import Derived.Test.YtkkohdmneognlaaGreatDoorMaq
import Derived.Lib.AtoiAllCases
namespace Go.Proofs.YtkkohdmneognlaaGreatDoor
open Go.RowKit

theorem numOf_in (x : List UInt8) : -9223372036854775808 ≤ numOf x ∧ numOf x ≤ 9223372036854775807 := by
  unfold numOf
  split
  · rename_i v h
    exact Lib.atoiAll_bounds h
  · cases x with
    | nil => decide
    | cons c r =>
      by_cases h : c.toNat = 45
      · simp [Lib.atoiSat, h]
      · rw [Lib.atoiSat_other c r h]
        omega
  · omega
theorem numsOf_in (s : List UInt8) : In64 (numsOf s) := fun n hn => by
  obtain ⟨x, _, rfl⟩ := List.mem_map.1 hn
  exact numOf_in x
theorem numsOf_len (s : List UInt8) : (numsOf s).length ≤ s.length + 1 := by
  unfold numsOf
  rw [List.length_map]
  exact fieldsN_cnt s s.length (-1) 0
theorem cut_sum (s sep : List UInt8) : (Lib.cut s sep).1.length + (Lib.cut s sep).2.1.length ≤ s.length := by
  unfold Lib.cut
  split
  · simp only [List.length_take, List.length_drop]
    omega
  · simp
theorem pathOf_sub : ∀ (l : List Int), (∀ x ∈ stepsL (pathOf l), x ∈ l) ∧ (stepsL (pathOf l)).length ≤ l.length ∧ (pathOf l).length ≤ l.length
  | [] => by simp [pathOf, stepsL]
  | [_] => by simp [pathOf, stepsL]
  | [_, _] => by simp [pathOf, stepsL]
  | a :: b :: c :: r => by
    obtain ⟨h1, h2, h3⟩ := pathOf_sub r
    rw [pathOf, stepsL]
    refine ⟨fun x hx => ?_, ?_, ?_⟩
    · simp only [List.cons_append, List.nil_append, List.mem_cons] at hx
      rcases hx with h | h | h | h
      · simp [h]
      · simp [h]
      · simp [h]
      · simp [h1 x h]
    · simp only [List.cons_append, List.nil_append, List.length_cons]; omega
    · simp only [List.length_cons]; omega
theorem flankOf_sub : ∀ (l : List Int), (∀ x ∈ needsL (flankOf l), x ∈ l) ∧ (needsL (flankOf l)).length ≤ l.length ∧ (flankOf l).length ≤ l.length
  | [] => by simp [flankOf, needsL]
  | [_] => by simp [flankOf, needsL]
  | a :: b :: r => by
    obtain ⟨h1, h2, h3⟩ := flankOf_sub r
    rw [flankOf, needsL]
    refine ⟨fun x hx => ?_, ?_, ?_⟩
    · simp only [List.cons_append, List.nil_append, List.mem_cons] at hx
      rcases hx with h | h | h
      · simp [h]
      · simp [h]
      · simp [h1 x h]
    · simp only [List.cons_append, List.nil_append, List.length_cons]; omega
    · simp only [List.length_cons]; omega

/-- a station's text but its last line -/
def bodyL (c : Cf) : Nat := (c.secs.flatMap secT).length + (c.jos.flatMap joT).length + (c.sigs.flatMap sgT).length + (c.crs.flatMap crT).length + (c.rts.flatMap rtT).length
theorem in_cons {a : Int} {l : List Int} (h : In64 (a :: l)) : In64 l := fun x hx => h x (List.mem_cons_of_mem _ hx)
theorem row_le {w : List UInt8} {l : List Int} (h : In64 l) : (rowM w l).length ≤ w.length + l.length * 22 := by
  unfold rowM
  rw [List.length_append]
  have := numsM_length l h
  omega
theorem flat_len {α : Type} (f : α → List UInt8) (l : List α) (x : α) : ((l ++ [x]).flatMap f).length = (l.flatMap f).length + (f x).length := by simp
theorem takeN_good {n : Nat} {c : Cf} (wd : List UInt8) (l : List Int) (hl : In64 l) (h64 : Cf64 c) (hz : Sz n c) : Cf64 (takeN c wd l) ∧ Sz (n + 1) (takeN c wd l) ∧ bodyL (takeN c wd l) ≤ bodyL c + 200 := by
  have hz1 := hz.mono (Nat.le_succ n)
  unfold takeN
  split
  · rename_i h
    obtain ⟨x0, x1, x2, rfl⟩ := len3 h.2
    have k : (secT ⟨x0, x1, x2⟩).length ≤ 200 := by
      have := row_le (w := wSec) hl
      rw [secT_len]
      simp only [wSec, List.length_cons, List.length_nil] at this
      exact Nat.le_trans (Nat.succ_le_succ this) (by omega)
    refine ⟨{ h64 with secs := fun s hs => ?_ }, { hz1 with secs := ?_ }, ?_⟩
    · rcases List.mem_append.1 hs with hs | hs
      · exact h64.secs s hs
      · rw [List.mem_singleton.1 hs]; exact hl
    · have := hz.secs; simp; omega
    · unfold bodyL
      dsimp only
      rw [flat_len]
      have : (secT ⟨[x0, x1, x2].getD 0 0, [x0, x1, x2].getD 1 0, [x0, x1, x2].getD 2 0⟩).length = (secT ⟨x0, x1, x2⟩).length := rfl
      omega
  · split
    · rename_i _ h
      obtain ⟨x0, x1, x2, x3, rfl⟩ := len4 h.2
      have k : (joT ⟨x0, x1, x2, x3⟩).length ≤ 200 := by
        have := row_le (w := wJo) hl
        rw [joT_len]
        simp only [wJo, List.length_cons, List.length_nil] at this
        exact Nat.le_trans (Nat.succ_le_succ this) (by omega)
      refine ⟨{ h64 with jos := fun s hs => ?_ }, { hz1 with jos := ?_ }, ?_⟩
      · rcases List.mem_append.1 hs with hs | hs
        · exact h64.jos s hs
        · rw [List.mem_singleton.1 hs]; exact hl
      · have := hz.jos; simp; omega
      · unfold bodyL
        dsimp only
        rw [flat_len]
        have : (joT ⟨[x0, x1, x2, x3].getD 0 0, [x0, x1, x2, x3].getD 1 0, [x0, x1, x2, x3].getD 2 0, [x0, x1, x2, x3].getD 3 0⟩).length = (joT ⟨x0, x1, x2, x3⟩).length := rfl
        omega
    · split
      · rename_i _ _ h
        obtain ⟨x0, x1, rfl⟩ := len2 h.2
        have k : (sgT ⟨x0, x1⟩).length ≤ 200 := by
          have := row_le (w := wSg) hl
          rw [sgT_len]
          simp only [wSg, List.length_cons, List.length_nil] at this
          exact Nat.le_trans (Nat.succ_le_succ this) (by omega)
        refine ⟨{ h64 with sigs := fun s hs => ?_ }, { hz1 with sigs := ?_ }, ?_⟩
        · rcases List.mem_append.1 hs with hs | hs
          · exact h64.sigs s hs
          · rw [List.mem_singleton.1 hs]; exact hl
        · have := hz.sigs; simp; omega
        · unfold bodyL
          dsimp only
          rw [flat_len]
          have : (sgT ⟨[x0, x1].getD 0 0, [x0, x1].getD 1 0⟩).length = (sgT ⟨x0, x1⟩).length := rfl
          omega
      · split
        · rename_i _ _ _ h
          obtain ⟨x0, rfl⟩ := len1 h.2
          have k : (crT x0).length ≤ 200 := by
            have := row_le (w := wCr) hl
            rw [crT_len]
            simp only [wCr, List.length_cons, List.length_nil] at this
            exact Nat.le_trans (Nat.succ_le_succ this) (by omega)
          refine ⟨{ h64 with crs := fun s hs => ?_ }, { hz1 with crs := ?_ }, ?_⟩
          · rcases List.mem_append.1 hs with hs | hs
            · exact h64.crs s hs
            · exact hl s hs
          · have := hz.crs; simp; omega
          · unfold bodyL
            dsimp only
            rw [flat_len]
            have : (crT ([x0].getD 0 0)).length = (crT x0).length := rfl
            omega
        · split
          · rename_i _ _ _ _ h
            obtain ⟨x0, x1, x2, x3, rfl⟩ := len4 h.2
            exact ⟨{ h64 with tm := hl }, { hz1 with }, Nat.le_add_right _ _⟩
          · exact ⟨h64, hz1, Nat.le_add_right _ _⟩
theorem takeRt_good {n : Nat} {c : Cf} (s : List UInt8) (hs : s.length + 1 ≤ n) (h64 : Cf64 c) (hz : Sz n c) : Cf64 (takeRt s c) ∧ Sz (n + 1) (takeRt s c) ∧ bodyL (takeRt s c) ≤ bodyL c + 22 * s.length + 200 := by
  have hz1 := hz.mono (Nat.le_succ n)
  have a1 := cut_sum s (32 :: wPath)
  have a2 := cut_sum (Lib.cut s (32 :: wPath)).2.1 (32 :: wFlank)
  have a3 := cut_sum (Lib.cut (Lib.cut s (32 :: wPath)).2.1 (32 :: wFlank)).2.1 (32 :: wOver)
  unfold takeRt
  dsimp only
  generalize (Lib.cut s (32 :: wPath)).1 = sa at *
  generalize (Lib.cut s (32 :: wPath)).2.1 = s1 at *
  generalize (Lib.cut s1 (32 :: wFlank)).1 = sb at *
  generalize (Lib.cut s1 (32 :: wFlank)).2.1 = s2 at *
  generalize (Lib.cut s2 (32 :: wOver)).1 = sc at *
  generalize (Lib.cut s2 (32 :: wOver)).2.1 = sd at *
  split
  · exact ⟨h64, hz1, by omega⟩
  · rename_i h
    have i1 := numsOf_in sa
    have i2 := numsOf_in sb
    have i3 := numsOf_in sc
    have i4 := numsOf_in sd
    have n2 := numsOf_len sb
    have n3 := numsOf_len sc
    have n4 := numsOf_len sd
    have hl1 : (numsOf sa).length = 3 := Classical.byContradiction fun k => h (.inl k)
    generalize numsOf sa = l1 at *
    obtain ⟨x0, x1, x2, rfl⟩ := len3 hl1
    obtain ⟨p1, p2, p3⟩ := pathOf_sub (numsOf sb)
    obtain ⟨f1, f2, f3⟩ := flankOf_sub (numsOf sc)
    have j2 : In64 (stepsL (pathOf (numsOf sb))) := fun x hx => i2 x (p1 x hx)
    have j3 : In64 (needsL (flankOf (numsOf sc))) := fun x hx => i3 x (f1 x hx)
    have jd : In64 [x0, x1, digitM (decide (x2 = 1))] := by
      intro x hx
      simp only [List.mem_cons, List.not_mem_nil, or_false] at hx
      rcases hx with rfl | rfl | rfl
      · exact i1 _ (by simp)
      · exact i1 _ (by simp)
      · unfold digitM; split <;> omega
    refine ⟨{ h64 with rts := fun r hr => ?_ }, { hz1 with rts := ?_, each := fun r hr => ?_ }, ?_⟩
    · rcases List.mem_append.1 hr with hr | hr
      · exact h64.rts r hr
      · rw [List.mem_singleton.1 hr]
        exact ⟨fun x hx => by
          simp only [List.mem_cons, List.not_mem_nil, or_false] at hx
          rcases hx with rfl | rfl
          · exact i1 _ (by simp)
          · exact i1 _ (by simp), j2, j3, i4⟩
    · have := hz.rts; simp; omega
    · rcases List.mem_append.1 hr with hr | hr
      · exact hz1.each r hr
      · rw [List.mem_singleton.1 hr]
        exact ⟨by dsimp only; omega, by dsimp only; omega, by dsimp only; omega⟩
    · unfold bodyL
      dsimp only
      rw [flat_len]
      have e1 := row_le (w := wRt) jd
      have e2 := row_le (w := wPath) j2
      have e3 := row_le (w := wFlank) j3
      have e4 := row_le (w := wOver) i4
      have e : (rtT ⟨[x0, x1, x2].getD 0 0, [x0, x1, x2].getD 1 0, pathOf (numsOf sb), flankOf (numsOf sc), numsOf sd, decide ([x0, x1, x2].getD 2 0 = 1)⟩).length = (rowM wRt [x0, x1, digitM (decide (x2 = 1))]).length + (rowM wPath (stepsL (pathOf (numsOf sb)))).length + (rowM wFlank (needsL (flankOf (numsOf sc)))).length + (rowM wOver (numsOf sd)).length + 4 := by
        rw [rtT_len]
        show (joinM [rowM wRt [x0, x1, digitM (decide (x2 = 1))], rowM wPath (stepsL (pathOf (numsOf sb))), rowM wFlank (needsL (flankOf (numsOf sc))), rowM wOver (numsOf sd)]).length + 1 = _
        simp only [joinM, List.length_append, List.length_cons]
        omega
      rw [e]
      simp only [wRt, wPath, wFlank, wOver, List.length_cons, List.length_nil] at e1 e2 e3 e4
      simp only [wRt, wPath, wFlank, wOver]
      omega
theorem takeM_good {n : Nat} {c : Cf} (s : List UInt8) (hs : s.length + 1 ≤ n) (h64 : Cf64 c) (hz : Sz n c) : Cf64 (takeM c s) ∧ Sz (n + 1) (takeM c s) ∧ bodyL (takeM c s) ≤ bodyL c + 22 * s.length + 200 := by
  have hc := cut_sum s [32]
  by_cases h : (Lib.cut s [32]).1 = wRt
  · have e : takeM c s = takeRt (Lib.cut s [32]).2.1 c := takeM_rt (fl := (Lib.cut s [32]).2.2) (by rw [← h])
    rw [e]
    obtain ⟨a, b, d⟩ := takeRt_good (n := n) (c := c) (Lib.cut s [32]).2.1 (by omega) h64 hz
    exact ⟨a, b, by omega⟩
  · have e : takeM c s = takeN c (Lib.cut s [32]).1 (numsOf (Lib.cut s [32]).2.1) := takeM_not (fl := (Lib.cut s [32]).2.2) rfl h
    rw [e]
    obtain ⟨a, b, d⟩ := takeN_good (n := n) (c := c) (Lib.cut s [32]).1 (numsOf (Lib.cut s [32]).2.1) (numsOf_in _) h64 hz
    exact ⟨a, b, by omega⟩
theorem fold_good : ∀ (ls : List (List UInt8)) (c : Cf) (n : Nat), Cf64 c → Sz n c → (∀ l ∈ ls, l.length + 1 ≤ n) → Cf64 (ls.foldl takeM c) ∧ Sz (n + ls.length) (ls.foldl takeM c) ∧ bodyL (ls.foldl takeM c) ≤ bodyL c + 22 * (ls.map List.length).sum + 200 * ls.length
  | [], c, n, h, hz, _ => ⟨h, hz, by simp⟩
  | l :: r, c, n, h, hz, hl => by
    obtain ⟨a, b, d⟩ := takeM_good l (hl l List.mem_cons_self) h hz
    obtain ⟨a2, b2, d2⟩ := fold_good r (takeM c l) (n + 1) a b fun x hx => Nat.le_trans (hl x (List.mem_cons_of_mem _ hx)) (Nat.le_succ n)
    rw [List.foldl_cons]
    refine ⟨a2, b2.mono (by rw [List.length_cons]; omega), ?_⟩
    rw [List.map_cons, List.sum_cons, List.length_cons]
    omega
theorem lines_facts : ∀ (n : Nat) (s : List UInt8), ((linesN n s).map List.length).sum ≤ s.length ∧ (linesN n s).length ≤ s.length ∧ ∀ l ∈ linesN n s, l.length ≤ s.length
  | 0, s => by simp [linesN]
  | n + 1, s => by
    rw [linesN]
    split
    · simp
    · rename_i hne
      have hp := List.length_pos_iff.2 hne
      split
      · simp; omega
      · obtain ⟨a, b, d⟩ := lines_facts n (s.drop ((Lib.indexByte s 10).toNat + 1))
        rw [List.length_drop] at a b d
        refine ⟨?_, ?_, fun l hl => ?_⟩
        · rw [List.map_cons, List.sum_cons, List.length_take]; omega
        · rw [List.length_cons]; omega
        · rcases List.mem_cons.1 hl with e | hl
          · rw [e, List.length_take]; omega
          · have := d l hl; omega
theorem cf0_64 : Cf64 cf0 := by
  refine ⟨?_, ?_, ?_, ?_, ?_, ?_⟩
  · intro _ h; cases h
  · intro _ h; cases h
  · intro _ h; cases h
  · intro _ h; cases h
  · intro _ h; cases h
  · intro x hx
    simp only [cf0, List.mem_cons, List.not_mem_nil, or_false] at hx
    rcases hx with rfl | rfl | rfl | rfl <;> omega
theorem cf0_sz (n : Nat) : Sz n cf0 := ⟨Nat.zero_le _, Nat.zero_le _, Nat.zero_le _, Nat.zero_le _, Nat.zero_le _, fun _ h => by cases h⟩
/-- the station that the first i lines tell -/
def readI (s : List UInt8) (i : Nat) : Cf := ((linesM s).take i).foldl takeM cf0
theorem readI_all (s : List UInt8) : readI s (linesM s).length = readM s := by unfold readI readM; rw [List.take_length]
theorem readI_step {s : List UInt8} {i : Nat} (h : i < (linesM s).length) : readI s (i + 1) = takeM (readI s i) (linesM s)[i] := by
  unfold readI
  rw [List.take_succ_eq_append_getElem h, List.foldl_append]
  rfl
theorem readI_good (s : List UInt8) (i : Nat) (hs : s.length ≤ 67108864) : Cf64 (readI s i) ∧ Sz 268435456 (readI s i) ∧ (textM (readI s i)).length ≤ 1099511627776 := by
  obtain ⟨a, b, d⟩ := lines_facts s.length s
  have hsum : (((linesM s).take i).map List.length).sum ≤ s.length := by
    refine Nat.le_trans ?_ a
    have e : linesM s = (linesM s).take i ++ (linesM s).drop i := (List.take_append_drop i _).symm
    show _ ≤ ((linesM s).map List.length).sum
    conv => rhs; rw [e]
    rw [List.map_append, List.sum_append]
    omega
  have hlen : ((linesM s).take i).length ≤ s.length := Nat.le_trans (by rw [List.length_take]; exact Nat.min_le_right _ _) b
  obtain ⟨h1, h2, h3⟩ := fold_good ((linesM s).take i) cf0 (s.length + 1) cf0_64 (cf0_sz _) fun l hl => by have := d l (List.mem_of_mem_take hl); omega
  refine ⟨h1, h2.mono (by omega), ?_⟩
  have e0 : bodyL cf0 = 0 := rfl
  have ht := row_le (w := wTm) h1.tm
  have e : (textM (readI s i)).length = bodyL (readI s i) + (rowM wTm [(readI s i).tm.age, (readI s i).tm.brake, (readI s i).tm.hold, (readI s i).tm.budget]).length + 1 := by
    unfold textM bodyL tmT
    simp only [List.length_append, List.length_cons, List.length_nil]
    omega
  unfold readI at e ⊢
  rw [e]
  simp only [wTm, List.length_cons, List.length_nil] at ht ⊢
  omega
end Go.Proofs.YtkkohdmneognlaaGreatDoor
/- The contract of Read. -/
namespace Go.Proofs.YtkkohdmneognlaaGreatDoor
open Go.RowKit
attribute [local go_sem] Oper.semAt_some

def C0 : Cm := ⟨none, 0, [], none, 0, [], none, 0, [], none, 0, [], none, 0, [], ⟨0, 0, 0, 0⟩⟩
def zeroCf : Array Value := #[.slice none 0 0, .slice none 0 0, .slice none 0 0, .slice none 0 0, .slice none 0 0, .int .i64 0, .int .i64 0, .int .i64 0, .int .i64 0]
theorem C0_at {q pb : Nat} {w : World} (h : Is w pb 75 zeroCf) (hl : pb < q) (hq : q ≤ w.heap.size) : PlanAt q pb C0 w :=
  ⟨h, hl, hq, World.ownsRow_nil _ _ _ _, World.ownsRow_nil _ _ _ _, World.ownsRow_nil _ _ _ _, World.ownsRow_nil _ _ _ _, World.ownsRow_nil _ _ _ _, (fun _ h => by cases h), (fun _ h => by cases h)⟩
theorem PlanAt.low {q pb : Nat} {C : Cm} {w w1 : World} {S : Nat → Prop} (h : PlanAt q pb C w) (f : Fr S w w1) (hS : ∀ k, S k → k < q ∧ k ≠ pb) : PlanAt q pb C w1 := by
  have hr : ∀ {e : TypeId} {size n : Nat} {v : Value} {xs : List Value}, w.ownsRow q e size v n xs → w1.ownsRow q e size v n xs := fun k => wide_fr k f fun b hb hs => by
    have := (World.ownsRow.lt k b hb).1
    have := (hS b hs).1
    omega
  exact ⟨h.here.fr f fun hs => (hS pb hs).2 rfl, h.lt, Nat.le_trans h.hq f.size, hr h.o1, hr h.o2, hr h.o3, hr h.o4, hr h.o5, fun r hm => ⟨hr (h.each r hm).p, hr (h.each r hm).f, hr (h.each r hm).o⟩, h.sep⟩

theorem C0_ok (w : World) : C0.Ok w := by
  have nr : ∀ {xs : List Value}, xs = [] → Rd w none xs := fun e h => by rw [e] at h; simp at h
  exact ⟨nr rfl, nr rfl, nr rfl, nr rfl, nr rfl, (fun _ h => by cases h), Nat.zero_le _, Nat.zero_le _, Nat.zero_le _, Nat.zero_le _, Nat.zero_le _, Nat.zero_le _, Nat.zero_le _, Nat.zero_le _, Nat.zero_le _, Nat.zero_le _, Nat.zero_le _, Nat.zero_le _, Nat.zero_le _, Nat.zero_le _, Nat.zero_le _⟩
def rdCf (s : List UInt8) : Cf := if textM (readM s) = s then readM s else cf0
def rdErr (s : List UInt8) : Int := if textM (readM s) = s then 0 else 13
theorem Is.put {W : World} {b d : Nat} {t : TypeId} {cs : Array Value} (h : Is W b t cs) (o : Obj) (hd : b ≠ d) : Is (W.putObj d o) b t cs := (World.putObj_heap_other hd).trans h

set_option maxRecDepth 100000 in
set_option maxHeartbeats 16000000 in
theorem read_any (s : List UInt8) (w : World) (hs : s.length ≤ 67108864) (hR : Rds w) (hP : Pow w) :
    Calls Tryz.prog 28 #[.string ⟨s.toArray⟩] w fun e w' => Fr (fun _ => False) w w' ∧ ∃ C : Cm, C.Ok w' ∧ e = .returned (.tuple #[C.val, .int .i64 (rdErr s)]) ∧ C.cf = rdCf s := by
  obtain ⟨lsum, llen, leach⟩ := lines_facts s.length s
  refine calls_marks Tryz.func28 rfl ?_
  simp only [Tryz.ntmps28, List.size_toArray, List.length_cons, List.length_nil, Nat.reduceAdd, Nat.reduceSub, Array.replicate_succ, Array.replicate_zero, List.push_toArray, List.append_toArray, List.nil_append, List.cons_append]
  go_wp2_with fail
  refine (lseq_any _ _).mono ?_
  rintro _ w1 ⟨rfl, isb, f1, hz⟩
  rw [World.size_alloc, World.size_alloc] at hz isb
  have isr : Is w1 w.heap.size 30 zeroCf := ((Is.new w _ _).alloc _).fr f1 id
  have isp : Is w1 (w.heap.size + 1) 75 zeroCf := (is_new_at (by simp) _ _).fr f1 id
  have F1 := fr_nil (((Fr.refl (fun _ => False) w).alloc _).alloc _) f1
  clear f1
  go_wp2_with fail
  refine wp_range_all (gf := 110) (lb := #[.pointer (some ⟨w.heap.size + 1 + 1, 0, none⟩)]) rfl (enters_of Tryz.func110 (by kernel_rfl) rfl)
    (lines_all (w.heap.size + 1 + 1) s w1 (by omega) isb) (Fr.refl _ _) (fun _ => rfl) (fun k h => by omega) (fun k h => by omega)
    (fun i W => ∃ C : Cm, C.cf = readI s i ∧ (PlanAt (w.heap.size + 5) (w.heap.size + 1) C W ∨ (C = C0 ∧ i = 0 ∧ Is W (w.heap.size + 1) 75 zeroCf)) ∧ Is W w.heap.size 30 zeroCf ∧ Fr (fun _ => False) w W)
    ?hI ?h0 (fun x => { tmps := #[.string ⟨s.toArray⟩, undef, .pointer (some ⟨w.heap.size, 0, none⟩), .int .i64 0, .pointer (some ⟨w.heap.size + 1, 0, none⟩), .string ⟨x.toArray⟩, .string ⟨s.toArray⟩, .func (.func 110) #[] #[.pointer (some ⟨w.heap.size + 1 + 1, 0, none⟩)], .string ⟨x.toArray⟩, undef, undef, undef, undef, undef, undef, undef, undef, undef, undef], defers := [] }) ?assign ?body ?done
  case assign =>
    intro l x W K hK
    simp only [encT]
    gi_wp2
    exact hK
  case hI =>
    rintro i X Y ⟨C, hc, hp, h2, h3⟩ hf
    have three : ∀ k, k ≠ w.heap.size + 1 + 1 → k ≠ w1.heap.size → k ≠ w1.heap.size + 1 → ¬ (k = w.heap.size + 1 + 1 ∨ k = w1.heap.size ∨ k = w1.heap.size + 1) := fun k a b c h => h.elim a fun h => h.elim b c
    refine ⟨C, hc, ?_, h2.fr hf (three _ (by omega) (by omega) (by omega)), h3.trans hf fun k hk h => three k (by omega) (by omega) (by omega) h⟩
    rcases hp with hp | ⟨e1, e2, hp⟩
    · exact .inl (hp.low hf fun k h => ⟨by rcases h with h | h | h <;> omega, by rcases h with h | h | h <;> omega⟩)
    · exact .inr ⟨e1, e2, hp.fr hf (three _ (by omega) (by omega) (by omega))⟩
  case h0 => exact ⟨C0, rfl, .inr ⟨rfl, rfl, isp⟩, isr, F1⟩
  case body =>
    rintro l i hi W ⟨C, hc, hp, h2, h3⟩ hlt
    obtain ⟨g1, g2, g3⟩ := readI_good s i hs
    have hp1 : PlanAt (w.heap.size + 5) (w.heap.size + 1) C W := by
      rcases hp with hp | ⟨e1, e2, hp⟩
      · exact hp
      · rw [e1]
        exact C0_at hp (by omega) (by omega)
    have hll : (linesM s)[i].length ≤ s.length := leach _ (List.getElem_mem hi)
    have hst := readI_step hi
    have KT := take_any (w.heap.size + 5) (w.heap.size + 1) C (linesM s)[i] W hp1 (by rw [hc]; exact g2) (by omega) (hR.fr h3)
    gi_wp2
    refine ⟨trivial, CallsIn.inRound l (callsIn_wide.2 (KT.mono ?_))⟩
    rintro _ W2 ⟨rfl, C', hC', hP', hF'⟩
    gi_wp2
    refine ⟨⟨C', by rw [hC', hc, hst], .inl hP', h2.fr hF' (by omega), h3.trans hF' fun k hk h => by omega⟩, hF'.size, ?_⟩
    intro k hk hS
    exact hF'.block k hk (by omega)
  case done =>
    rintro W ⟨C, hc, hp, h2, h3⟩ hd
    rw [readI_all] at hc
    obtain ⟨g1, g2, g3⟩ := readI_good s (linesM s).length hs
    rw [readI_all, ← hc] at g1 g2 g3
    have hpp : Is W (w.heap.size + 1) 75 C.arr := by
      rcases hp with hp | ⟨e1, e2, hp⟩
      · exact hp.here
      · rw [e1]; exact hp
    have hok : C.Ok W := by
      rcases hp with hp | ⟨e1, e2, hp⟩
      · exact hp.ok (Nat.le_of_lt (by decide)) g2
      · rw [e1]
        refine (C0_at hp (Nat.lt_succ_self _) ?_).ok (n := 0) (Nat.zero_le _) (cf0_sz 0)
        exact hp.lt
    have hok5 : ∀ W', Fr (fun k => k = w.heap.size ∨ k = w.heap.size + 1 + 1 + 1) W W' → C.Ok W' := fun W' f => by
      rcases hp with hp | ⟨e1, e2, hp⟩
      · exact (hp.low f fun k h => ⟨by rcases h with h | h <;> omega, by rcases h with h | h <;> omega⟩).ok (Nat.le_of_lt (by decide)) g2
      · rw [e1]
        exact C0_ok W'
    have KX := text_any C W hok (hP.fr h3) g1 g3
    have p0 := hpp.cell 0
    have p1 := hpp.cell 1
    have p2 := hpp.cell 2
    have p3 := hpp.cell 3
    have p4 := hpp.cell 4
    have p5 := hpp.cell 5
    have p6 := hpp.cell 6
    have p7 := hpp.cell 7
    have p8 := hpp.cell 8
    unfold Cm.arr at p0 p1 p2 p3 p4 p5 p6 p7 p8
    simp at p0 p1 p2 p3 p4 p5 p6 p7 p8
    unfold Cm.val Cm.arr at KX
    go_wp2_with fail
    refine KX.mono ?_
    rintro _ w4 ⟨rfl, f4⟩
    have hd4 := (f4.block _ (Array.getElem?_eq_some_iff.1 hd).1 id).trans hd
    have hok4 := hok.fr f4
    have hp4 := hpp.fr f4 id
    have h24 := h2.fr f4 id
    have F4 := fr_nil h3 f4
    have HC := Lib.hid hc
    clear hc
    have q0 := hp4.cell 0
    have q1 := hp4.cell 1
    have q2 := hp4.cell 2
    have q3 := hp4.cell 3
    have q4 := hp4.cell 4
    have q5 := hp4.cell 5
    have q6 := hp4.cell 6
    have q7 := hp4.cell 7
    have q8 := hp4.cell 8
    unfold Cm.arr at q0 q1 q2 q3 q4 q5 q6 q7 q8
    simp at q0 q1 q2 q3 q4 q5 q6 q7 q8
    unfold zeroCf at h24
    have y0 := h24.cell 0
    have y1 := h24.cell 1
    have y2 := h24.cell 2
    have y3 := h24.cell 3
    have y4 := h24.cell 4
    have y5 := h24.cell 5
    have y6 := h24.cell 6
    have y7 := h24.cell 7
    have y8 := h24.cell 8
    simp at y0 y1 y2 y3 y4 y5 y6 y7 y8
    have yz := h24.frozen
    clear p0 p1 p2 p3 p4 p5 p6 p7 p8
    by_cases he : textM C.cf = s
    · have hb : ((textM C.cf) == s) = true := by simpa using he
      have HE := Lib.hid he
      clear he
      go_wp2_with fail
      have fs := (((((((((Fr.refl (fun k => k = w.heap.size) w4).setCell (p := ⟨w.heap.size, 0, none⟩) (.inl rfl) (.slice C.A1 C.l.length C.c1)).setCell (p := ⟨w.heap.size, 1, none⟩) (.inl rfl) (.slice C.A2 C.js.length C.c2)).setCell (p := ⟨w.heap.size, 2, none⟩) (.inl rfl) (.slice C.A3 C.sg.length C.c3)).setCell (p := ⟨w.heap.size, 3, none⟩) (.inl rfl) (.slice C.A4 C.cr.length C.c4)).setCell (p := ⟨w.heap.size, 4, none⟩) (.inl rfl) (.slice C.A5 C.rs.length C.c5)).setCell (p := ⟨w.heap.size, 5, none⟩) (.inl rfl) (.int .i64 C.tm.age)).setCell (p := ⟨w.heap.size, 6, none⟩) (.inl rfl) (.int .i64 C.tm.brake)).setCell (p := ⟨w.heap.size, 7, none⟩) (.inl rfl) (.int .i64 C.tm.hold)).setCell (p := ⟨w.heap.size, 8, none⟩) (.inl rfl) (.int .i64 C.tm.budget)
      have isf := (((((((((h24).set 0 (.slice C.A1 C.l.length C.c1)).set 1 (.slice C.A2 C.js.length C.c2)).set 2 (.slice C.A3 C.sg.length C.c3)).set 3 (.slice C.A4 C.cr.length C.c4)).set 4 (.slice C.A5 C.rs.length C.c5)).set 5 (.int .i64 C.tm.age)).set 6 (.int .i64 C.tm.brake)).set 7 (.int .i64 C.tm.hold)).set 8 (.int .i64 C.tm.budget)
      try simp at isf
      have hd5 := (fs.block _ (Array.getElem?_eq_some_iff.1 hd4).1 (by omega)).trans hd4
      have F5 := F4.trans fs fun k hk e => by omega
      have isp := isf.put (d := w.heap.size + 1 + 1 + 1) (.deferred none) (by omega)
      rw [hz] at hd5
      have F6 : Fr (fun _ => False) w ((((((((((w4.setCell ⟨w.heap.size, 0, none⟩ (.slice C.A1 C.l.length C.c1)).setCell ⟨w.heap.size, 1, none⟩ (.slice C.A2 C.js.length C.c2)).setCell ⟨w.heap.size, 2, none⟩ (.slice C.A3 C.sg.length C.c3)).setCell ⟨w.heap.size, 3, none⟩ (.slice C.A4 C.cr.length C.c4)).setCell ⟨w.heap.size, 4, none⟩ (.slice C.A5 C.rs.length C.c5)).setCell ⟨w.heap.size, 5, none⟩ (.int .i64 C.tm.age)).setCell ⟨w.heap.size, 6, none⟩ (.int .i64 C.tm.brake)).setCell ⟨w.heap.size, 7, none⟩ (.int .i64 C.tm.hold)).setCell ⟨w.heap.size, 8, none⟩ (.int .i64 C.tm.budget)).putObj (w.heap.size + 1 + 1 + 1) (.deferred none)) := F5.trans (Fr.putObj (S := fun k => k = w.heap.size + 1 + 1 + 1) (.deferred none) rfl) fun k hk e => by omega
      have hokF : C.Ok ((((((((((w4.setCell ⟨w.heap.size, 0, none⟩ (.slice C.A1 C.l.length C.c1)).setCell ⟨w.heap.size, 1, none⟩ (.slice C.A2 C.js.length C.c2)).setCell ⟨w.heap.size, 2, none⟩ (.slice C.A3 C.sg.length C.c3)).setCell ⟨w.heap.size, 3, none⟩ (.slice C.A4 C.cr.length C.c4)).setCell ⟨w.heap.size, 4, none⟩ (.slice C.A5 C.rs.length C.c5)).setCell ⟨w.heap.size, 5, none⟩ (.int .i64 C.tm.age)).setCell ⟨w.heap.size, 6, none⟩ (.int .i64 C.tm.brake)).setCell ⟨w.heap.size, 7, none⟩ (.int .i64 C.tm.hold)).setCell ⟨w.heap.size, 8, none⟩ (.int .i64 C.tm.budget)).putObj (w.heap.size + 1 + 1 + 1) (.deferred none)) := hok5 _ (((f4.mono fun _ _ h => h.elim).trans fs fun k hk e => .inl e).trans (Fr.putObj (S := fun k => k = w.heap.size + 1 + 1 + 1) (.deferred none) rfl) fun k hk e => .inr e)
      refine ⟨by simp, .inl ⟨_, _, rfl, run_takeDeferred hd5, .tuple #[C.val, .int .i64 0], ?_, ?_⟩⟩
      · generalize ((((((((((w4.setCell ⟨w.heap.size, 0, none⟩ (.slice C.A1 C.l.length C.c1)).setCell ⟨w.heap.size, 1, none⟩ (.slice C.A2 C.js.length C.c2)).setCell ⟨w.heap.size, 2, none⟩ (.slice C.A3 C.sg.length C.c3)).setCell ⟨w.heap.size, 3, none⟩ (.slice C.A4 C.cr.length C.c4)).setCell ⟨w.heap.size, 4, none⟩ (.slice C.A5 C.rs.length C.c5)).setCell ⟨w.heap.size, 5, none⟩ (.int .i64 C.tm.age)).setCell ⟨w.heap.size, 6, none⟩ (.int .i64 C.tm.brake)).setCell ⟨w.heap.size, 7, none⟩ (.int .i64 C.tm.hold)).setCell ⟨w.heap.size, 8, none⟩ (.int .i64 C.tm.budget)).putObj (w.heap.size + 1 + 1 + 1) (.deferred none)) = Wf at isp ⊢
        have m0 := isp.cell 0
        have m1 := isp.cell 1
        have m2 := isp.cell 2
        have m3 := isp.cell 3
        have m4 := isp.cell 4
        have m5 := isp.cell 5
        have m6 := isp.cell 6
        have m7 := isp.cell 7
        have m8 := isp.cell 8
        simp at m0 m1 m2 m3 m4 m5 m6 m7 m8
        simp [results, Tryz.results28, go_sem, m0, m1, m2, m3, m4, m5, m6, m7, m8, Cm.val, Cm.arr]
      · refine ⟨F6, C, hokF, ?_, ?_⟩
        · unfold rdErr; rw [← HC.out, if_pos HE.out]
        · unfold rdCf; rw [← HC.out, if_pos HE.out]
    · have hb : ((textM C.cf) == s) = false := by simpa using he
      have HE := Lib.hid he
      clear he
      go_wp2_with fail
      have fs := (((((((((Fr.refl (fun k => k = w.heap.size) w4).setCell (p := ⟨w.heap.size, 0, none⟩) (.inl rfl) (.slice none 0 0)).setCell (p := ⟨w.heap.size, 1, none⟩) (.inl rfl) (.slice none 0 0)).setCell (p := ⟨w.heap.size, 2, none⟩) (.inl rfl) (.slice none 0 0)).setCell (p := ⟨w.heap.size, 3, none⟩) (.inl rfl) (.slice none 0 0)).setCell (p := ⟨w.heap.size, 4, none⟩) (.inl rfl) (.slice none 0 0)).setCell (p := ⟨w.heap.size, 5, none⟩) (.inl rfl) (.int .i64 0)).setCell (p := ⟨w.heap.size, 6, none⟩) (.inl rfl) (.int .i64 0)).setCell (p := ⟨w.heap.size, 7, none⟩) (.inl rfl) (.int .i64 0)).setCell (p := ⟨w.heap.size, 8, none⟩) (.inl rfl) (.int .i64 0)
      have isf := (((((((((h24).set 0 (.slice none 0 0)).set 1 (.slice none 0 0)).set 2 (.slice none 0 0)).set 3 (.slice none 0 0)).set 4 (.slice none 0 0)).set 5 (.int .i64 0)).set 6 (.int .i64 0)).set 7 (.int .i64 0)).set 8 (.int .i64 0)
      try simp at isf
      have hd5 := (fs.block _ (Array.getElem?_eq_some_iff.1 hd4).1 (by omega)).trans hd4
      have F5 := F4.trans fs fun k hk e => by omega
      have isp := isf.put (d := w.heap.size + 1 + 1 + 1) (.deferred none) (by omega)
      rw [hz] at hd5
      have F6 : Fr (fun _ => False) w ((((((((((w4.setCell ⟨w.heap.size, 0, none⟩ (.slice none 0 0)).setCell ⟨w.heap.size, 1, none⟩ (.slice none 0 0)).setCell ⟨w.heap.size, 2, none⟩ (.slice none 0 0)).setCell ⟨w.heap.size, 3, none⟩ (.slice none 0 0)).setCell ⟨w.heap.size, 4, none⟩ (.slice none 0 0)).setCell ⟨w.heap.size, 5, none⟩ (.int .i64 0)).setCell ⟨w.heap.size, 6, none⟩ (.int .i64 0)).setCell ⟨w.heap.size, 7, none⟩ (.int .i64 0)).setCell ⟨w.heap.size, 8, none⟩ (.int .i64 0)).putObj (w.heap.size + 1 + 1 + 1) (.deferred none)) := F5.trans (Fr.putObj (S := fun k => k = w.heap.size + 1 + 1 + 1) (.deferred none) rfl) fun k hk e => by omega
      have hokF : C0.Ok ((((((((((w4.setCell ⟨w.heap.size, 0, none⟩ (.slice none 0 0)).setCell ⟨w.heap.size, 1, none⟩ (.slice none 0 0)).setCell ⟨w.heap.size, 2, none⟩ (.slice none 0 0)).setCell ⟨w.heap.size, 3, none⟩ (.slice none 0 0)).setCell ⟨w.heap.size, 4, none⟩ (.slice none 0 0)).setCell ⟨w.heap.size, 5, none⟩ (.int .i64 0)).setCell ⟨w.heap.size, 6, none⟩ (.int .i64 0)).setCell ⟨w.heap.size, 7, none⟩ (.int .i64 0)).setCell ⟨w.heap.size, 8, none⟩ (.int .i64 0)).putObj (w.heap.size + 1 + 1 + 1) (.deferred none)) := C0_ok _
      refine ⟨by simp, .inl ⟨_, _, rfl, run_takeDeferred hd5, .tuple #[C0.val, .int .i64 13], ?_, ?_⟩⟩
      · generalize ((((((((((w4.setCell ⟨w.heap.size, 0, none⟩ (.slice none 0 0)).setCell ⟨w.heap.size, 1, none⟩ (.slice none 0 0)).setCell ⟨w.heap.size, 2, none⟩ (.slice none 0 0)).setCell ⟨w.heap.size, 3, none⟩ (.slice none 0 0)).setCell ⟨w.heap.size, 4, none⟩ (.slice none 0 0)).setCell ⟨w.heap.size, 5, none⟩ (.int .i64 0)).setCell ⟨w.heap.size, 6, none⟩ (.int .i64 0)).setCell ⟨w.heap.size, 7, none⟩ (.int .i64 0)).setCell ⟨w.heap.size, 8, none⟩ (.int .i64 0)).putObj (w.heap.size + 1 + 1 + 1) (.deferred none)) = Wf at isp ⊢
        have m0 := isp.cell 0
        have m1 := isp.cell 1
        have m2 := isp.cell 2
        have m3 := isp.cell 3
        have m4 := isp.cell 4
        have m5 := isp.cell 5
        have m6 := isp.cell 6
        have m7 := isp.cell 7
        have m8 := isp.cell 8
        simp at m0 m1 m2 m3 m4 m5 m6 m7 m8
        simp [results, Tryz.results28, go_sem, m0, m1, m2, m3, m4, m5, m6, m7, m8, Cm.val, Cm.arr, C0]
      · refine ⟨F6, C0, hokF, ?_, ?_⟩
        · unfold rdErr; rw [← HC.out, if_neg HE.out]
        · unfold rdCf; rw [← HC.out, if_neg HE.out]; rfl
end Go.Proofs.YtkkohdmneognlaaGreatDoor
/- The document's own row: words. -/
namespace Go.Proofs.YtkkohdmneognlaaGreatDoor
open Go.RowKit

theorem itoa_any (n : Int) (h0 : -9223372036854775808 ≤ n) (h1 : n ≤ 9223372036854775807) (W : World) (hP : Pow W) : Calls Tryz.prog 82 #[.int .i64 n] W fun e w' => e = .returned (.string ⟨(Lib.itoa n).toArray⟩) ∧ Fr (fun _ => False) W w' := by
  refine (Tryz.strconv_Itoa n h0 h1 W hP).mono ?_
  rintro e w' ⟨rfl, k, os, rfl⟩
  exact ⟨rfl, Fr.ofBelow (Lib.below_grow W.heap.size W (Nat.le_refl _) k os)⟩

set_option maxRecDepth 100000 in
set_option maxHeartbeats 4000000 in
theorem words_any (wd : List UInt8) {A : Option Addr} {c : Nat} (l : List Int) (w : World) (h : Rd w A (l.map (Value.int .i64))) (hP : Pow w) (h64 : In64 l) (hw : wd.length ≤ 4096) (hl : l.length ≤ 2199023255552) :
    Calls Tryz.prog 36 #[.string ⟨wd.toArray⟩, .slice A l.length c] w fun e w' => e = .returned (.string ⟨(rowM wd l).toArray⟩) ∧ Fr (fun _ => False) w w' := by
  go_enter Tryz.func36, Tryz.ntmps36
  go_wp2_with fail
  go_loopw [0, 9] (fun v0 v9 wr => ∃ k : Nat, k ≤ l.length ∧ v0 = .string ⟨(rowM wd (l.take k)).toArray⟩ ∧ v9 = .int .i64 (k : Nat) ∧ Fr (fun _ => False) w wr) (fun _ i _ => l.length - (intOf i).toNat)
  case atStart => exact ⟨0, Nat.zero_le _, by simp [rowM, numsM], rfl, Fr.refl _ _⟩
  case round =>
    obtain ⟨k, hk, rfl, rfl, fr⟩ := hrel
    by_cases hlt : k < l.length
    · obtain ⟨g, o, ha, q0⟩ := rd_int (h.fr fr fun _ _ => id) hlt
      have hs : (⟨(rowM wd (l.take (k + 1))).toArray⟩ : ByteArray) = ⟨(rowM wd (l.take k)).toArray⟩ ++ (⟨#[32]⟩ ++ ⟨(Lib.itoa l[k]).toArray⟩) := by
        apply bytesOf_inj
        rw [bytesOf_append, bytesOf_append, bytesOf_mk, bytesOf_mk, bytesOf_mk, List.take_succ_eq_append_getElem hlt]
        unfold rowM
        rw [numsM_append, List.append_assoc]
        simp [numsM, bytesOf]
      have hx := h64 _ (List.getElem_mem hlt)
      have hil := Lib.itoa_length_le l[k] hx.1 hx.2
      have hRl : (rowM wd (l.take k)).length ≤ 4096 + 2199023255552 * 22 := by
        have := numsM_length (l.take k) fun x hx => h64 x (List.mem_of_mem_take hx)
        rw [List.length_take] at this
        unfold rowM
        rw [List.length_append]
        have := Nat.min_le_right k l.length
        omega
      generalize l[k] = x at *
      have HS := Lib.hid hs
      clear hs
      have K := itoa_any x hx.1 hx.2 wr (hP.fr fr)
      rw [ha]
      have HA := Lib.hid ha
      clear ha
      go_wp2_with fail
      refine K.mono ?_
      clear K
      rintro _ w2 ⟨rfl, f2⟩
      go_wp2_with fail
      all_goals try (exfalso; omega)
      go_roundw
      case rel => exact ⟨k + 1, by omega, by rw [HS.out], by go_num, fr_nil fr f2⟩
      case measure => simp [intOf]; omega
    · obtain rfl : k = l.length := by omega
      rw [List.take_length]
      go_wp2_with fail
      go_ret
      exact ⟨rfl, fr⟩
end Go.Proofs.YtkkohdmneognlaaGreatDoor

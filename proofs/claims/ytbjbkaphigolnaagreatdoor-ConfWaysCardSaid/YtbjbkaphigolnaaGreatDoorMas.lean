/- A configuration that came in: the sizes of its lists, out of the reading's weights. -/
import Derived.Test.YtbjbkaphigolnaaGreatDoorMar
import Derived.Deep.DeepWitnessRowRef
import Derived.ProofKit
import Derived.SizedLaws
import Derived.LaidLaws
import Derived.Lib.LaidIn
namespace Go.Proofs.YtbjbkaphigolnaaGreatDoor
open Go.ChangeShapes Go.WideShapes Go.ChangeAt Go.RowKit Go.Deep

theorem weights_all {H : Type} {P : Program} {e : TypeId} : ∀ {es : List (DataW H)} {i : Nat} {x : DataW H} {n : Nat}, es[i]? = some x → n ∈ x.weights P e → n ∈ DataW.weightsAll P e es
  | y :: es, 0, x, n, h, hn => by
    simp only [List.getElem?_cons_zero, Option.some.injEq] at h
    subst h
    simp only [DataW.weightsAll, List.mem_append]
    exact .inl hn
  | y :: es, i + 1, x, n, h, hn => by
    simp only [List.getElem?_cons_succ] at h
    simp only [DataW.weightsAll, List.mem_append]
    exact .inr (weights_all h hn)
  | [], _, _, _, h, _ => by simp at h
section
variable {H : Type}
theorem sl_weight {d : DataW H} {n b : Nat} {t e : TypeId} (s : SL d n) (ht : Tryz.prog.underlying t = some (.slice e)) (hb : Tryz.prog.bytesOf e = b) : n = 0 ∨ ∃ k, k ∈ d.weights Tryz.prog t ∧ n * b ≤ k := by
  rcases s with ⟨_, h⟩ | ⟨es, rest, rfl, h⟩
  · exact .inl h
  · refine .inr ⟨(es.length + rest.length) * b, ?_, ?_⟩
    · simp only [DataW.weights, ht, hb]
      simp
    · rw [← h]
      exact Nat.mul_le_mul_right _ (Nat.le_add_right _ _)
theorem sl_size {ts : List TypeId} {ds : List (DataW H)} (hsz : (DataW.weightsEach Tryz.prog ts ds).all (· ≤ reachBytes) = true) {d : DataW H} {n b : Nat} {t e : TypeId} (s : SL d n) (ht : Tryz.prog.underlying t = some (.slice e)) (hb : Tryz.prog.bytesOf e = b)
    (hin : ∀ k, k ∈ d.weights Tryz.prog t → k ∈ DataW.weightsEach Tryz.prog ts ds) : n * b ≤ 140737488351232 := by
  rcases sl_weight s ht hb with h | ⟨k, hk, hle⟩
  · rw [h]; omega
  · have := List.all_eq_true.1 hsz _ (hin k hk)
    simp only [decide_eq_true_eq] at this
    unfold reachBytes at this
    omega
theorem cf_field {ts : List TypeId} {ds : List (DataW H)} {j : Nat} {d1 d2 d3 d4 d5 d6 : DataW H} (ht : ts[j]? = some 30) (hd : ds[j]? = some (.agg [d1, d2, d3, d4, d5, d6])) {i : Nat} {t : TypeId} {di : DataW H} (hi : [22, 23, 24, 25, 26, 28][i]? = some t) (hdi : [d1, d2, d3, d4, d5, d6][i]? = some di) : ∀ k, k ∈ di.weights Tryz.prog t → k ∈ DataW.weightsEach Tryz.prog ts ds := fun k hk => by
  refine DataW.weights_mem_each ht hd _ ?_
  simp only [DataW.weights, Tryz.underlying30]
  exact DataW.weights_mem_each hi hdi _ hk
theorem ro_field {es rest : List (DataW H)} {j : Nat} {d1 d2 d3 d4 d5 d6 : DataW H} (hd : es[j]? = some (.agg [d1, d2, d3, d4, d5, d6])) {i : Nat} {t : TypeId} {di : DataW H} (hi : [3, 3, 40, 41, 25, 4][i]? = some t) (hdi : [d1, d2, d3, d4, d5, d6][i]? = some di) : ∀ k, k ∈ di.weights Tryz.prog t → k ∈ (DataW.slice es rest : DataW H).weights Tryz.prog 26 := fun k hk => by
  simp only [DataW.weights, Tryz.underlying26]
  refine List.mem_cons_of_mem _ (List.mem_append.2 (.inl (weights_all hd ?_)))
  simp only [DataW.weights, Tryz.underlying43]
  exact DataW.weights_mem_each hi hdi _ hk
theorem Tryz.by1 : Tryz.prog.bytesOf 62 = 24 := by kernel_rfl
theorem Tryz.by2 : Tryz.prog.bytesOf 69 = 32 := by kernel_rfl
theorem Tryz.by3 : Tryz.prog.bytesOf 56 = 16 := by kernel_rfl
theorem Tryz.by4 : Tryz.prog.bytesOf 3 = 8 := by kernel_rfl
theorem Tryz.by5 : Tryz.prog.bytesOf 43 = 96 := by kernel_rfl
theorem Tryz.by6 : Tryz.prog.bytesOf 45 = 24 := by kernel_rfl
theorem Tryz.by7 : Tryz.prog.bytesOf 67 = 16 := by kernel_rfl
/-- what came in is a configuration that the contracts take -/
theorem conf_ok {w : World} {C : Cm} {d : DataW H} {ts : List TypeId} {ds : List (DataW H)} {j : Nat} (h : CfIn w C d) (hsz : (DataW.weightsEach Tryz.prog ts ds).all (· ≤ reachBytes) = true) (ht : ts[j]? = some 30) (hd : ds[j]? = some d) : C.Ok w := by
  obtain ⟨d1, d2, d3, d4, d5, d6, rfl, s1, s2, s3, s4, s5⟩ := h.data
  have m1 := h.m1
  have m2 := h.m2
  have m3 := h.m3
  have m4 := h.m4
  have m5 := h.m5
  unfold maxLen at m1 m2 m3 m4 m5
  have b1 := sl_size hsz s1 Tryz.underlying22 Tryz.by1 (cf_field ht hd (i := 0) rfl rfl)
  have b2 := sl_size hsz s2 Tryz.underlying23 Tryz.by2 (cf_field ht hd (i := 1) rfl rfl)
  have b3 := sl_size hsz s3 Tryz.underlying24 Tryz.by3 (cf_field ht hd (i := 2) rfl rfl)
  have b4 := sl_size hsz s4 Tryz.underlying25 Tryz.by4 (cf_field ht hd (i := 3) rfl rfl)
  have s5' : SL d5 C.rs.length := by
    rcases s5 with ⟨a, b⟩ | ⟨es, rest, a, b, _⟩
    · exact .inl ⟨a, by rw [b]; rfl⟩
    · exact .inr ⟨es, rest, a, b⟩
  have b5 := sl_size hsz s5' Tryz.underlying26 Tryz.by5 (cf_field ht hd (i := 4) rfl rfl)
  refine ⟨h.secs, h.jos, h.sigs, h.crs, h.rts, fun r hr => ?_, h.l1, h.l2, h.l3, h.l4, h.l5, b1, b2, b3, b4, b5, by omega, by omega, by omega, by omega, by omega⟩
  rcases s5 with ⟨_, e⟩ | ⟨es, rest, rfl, _, he⟩
  · rw [e] at hr; cases hr
  · obtain ⟨i, hi, rfl⟩ := List.mem_iff_getElem.1 hr
    obtain ⟨x, hxi, ⟨r1, r2, r3, i1, i2, i3, n1, n2, n3⟩, e0, e1, e2, e3, e4, e5, rfl, t1, t2, t3⟩ := he i hi
    unfold maxLen at n1 n2 n3
    have q1 := sl_size hsz t1 Tryz.underlying40 Tryz.by6 (fun k hk => cf_field ht hd (i := 4) rfl rfl k (ro_field (rest := rest) hxi (i := 2) rfl rfl k hk))
    have q2 := sl_size hsz t2 Tryz.underlying41 Tryz.by7 (fun k hk => cf_field ht hd (i := 4) rfl rfl k (ro_field (rest := rest) hxi (i := 3) rfl rfl k hk))
    have q3 := sl_size hsz t3 Tryz.underlying25 Tryz.by4 (fun k hk => cf_field ht hd (i := 4) rfl rfl k (ro_field (rest := rest) hxi (i := 4) rfl rfl k hk))
    exact ⟨r1, r2, r3, i1, i2, i3, q1, q2, q3, by omega, by omega, by omega⟩
end
end Go.Proofs.YtbjbkaphigolnaaGreatDoor
/- Plain mathematics: the document's own answers of flanks, overlaps, locks and checks are those of XStat. -/
namespace Go.Proofs.YtbjbkaphigolnaaGreatDoor

def inL (l : List Int) (n : Int) : Bool := l.any fun x => decide (x = n)
theorem inL_iff (l : List Int) (n : Int) : inL l n = true ↔ n ∈ l := by
  unfold inL
  rw [List.any_eq_true]
  constructor
  · rintro ⟨x, hx, h⟩
    rw [decide_eq_true_eq] at h
    exact h ▸ hx
  · intro h
    exact ⟨n, h, by simp⟩
theorem inL_append (a b : List Int) (n : Int) : inL (a ++ b) n = (inL a n || inL b n) := by
  unfold inL
  rw [List.any_append]
/-- a section's kind; -1: it is none -/
def rkind (l : List Sec) (s : Int) : Int := if isSecB l.length s = true then kindOf l s.toNat else -1
theorem rkind_ends (l : List Sec) (s : Int) : endsM (rkind l s) = endsOf l s := by
  unfold rkind endsOf
  split
  · rfl
  · decide
def secsOf (p : List St) : List Int := p.map St.sec

/-! ### The flank -/
def rflankOk (l : List Sec) (js : List Jo) (ps : List Int) (ap : Int) (listed : List Int) (s e : Int) : Bool :=
  nextOk js s e && (decide (rkind l (nextS js s e) = 1) && ((decide (nextE js s e = 1) || decide (nextE js s e = 2)) && (!inL ps (nextS js s e) && (!decide (nextS js s e = ap) && !inL listed (nextS js s e)))))
def rflankE (l : List Sec) (js : List Jo) (ps : List Int) (ap : Int) (x : St) (e : Int) (q : List Int × List Nd) : List Int × List Nd :=
  if (decide (e = x.inn) || decide (e = x.out)) = true then q
  else if rflankOk l js ps ap q.1 x.sec e = true then (q.1 ++ [nextS js x.sec e], q.2 ++ [guardN js x.sec e]) else q
def rflankI (l : List Sec) (js : List Jo) (ps : List Int) (ap : Int) (x : St) : List Int → List Int × List Nd → List Int × List Nd
  | [], q => q
  | e :: r, q => rflankI l js ps ap x r (rflankE l js ps ap x e q)
def rflankO (l : List Sec) (js : List Jo) (ps : List Int) (ap : Int) : List St → List Int × List Nd → List Int × List Nd
  | [], q => q
  | x :: r, q => rflankO l js ps ap r (rflankI l js ps ap x (endsL (endsM (rkind l x.sec))) q)
def rflankM (l : List Sec) (js : List Jo) (ap : Int) (path : List St) : List Nd := (rflankO l js (secsOf path) ap path ([], [])).2

/-- what is barred, and what is listed -/
def Likes (n : Nat) (ps : List Int) (ap : Int) (b : List Bool × List Nd) (q : List Int × List Nd) : Prop :=
  b.2 = q.2 ∧ b.1.length = n ∧ ∀ k : Nat, k < n → seenAt b.1 k = (inL ps k || (decide (ap = k) || inL q.1 k))
theorem rkind_one {l : List Sec} {s : Int} : rkind l s = 1 ↔ isSecB l.length s = true ∧ kindOf l s.toNat = 1 := by
  unfold rkind
  split
  · rename_i h; simp [h]
  · rename_i h; simp [h]
theorem flankE_ref {l : List Sec} {js : List Jo} {ps : List Int} {ap : Int} (x : St) (e : Int) {b : List Bool × List Nd} {q : List Int × List Nd} (h : Likes l.length ps ap b q) :
    Likes l.length ps ap (flankE l js x e b) (rflankE l js ps ap x e q) := by
  obtain ⟨h1, h2, h3⟩ := h
  unfold flankE rflankE
  by_cases hc : (decide (e = x.inn) || decide (e = x.out)) = true
  · rw [if_pos hc, if_pos hc]
    exact ⟨h1, h2, h3⟩
  · rw [if_neg hc, if_neg hc]
    have key : (guardOk l js x.sec e && !seenAt b.1 (nextS js x.sec e).toNat) = rflankOk l js ps ap q.1 x.sec e := by
      unfold guardOk rflankOk
      cases nextOk js x.sec e
      · rfl
      · simp only [Bool.true_and]
        by_cases hk : rkind l (nextS js x.sec e) = 1
        · obtain ⟨hs, hk1⟩ := rkind_one.1 hk
          rw [hs, hk1, hk]
          obtain ⟨k, e1, hlt⟩ := isSecB_true hs
          have := h3 k hlt
          rw [e1, Int.toNat_natCast, this]
          have ec : decide ((k : Int) = ap) = decide (ap = (k : Int)) := by
            by_cases e2 : ap = (k : Int)
            · simp [e2]
            · have : ¬ (k : Int) = ap := fun h => e2 h.symm
              simp [e2, this]
          rw [ec]
          simp only [decide_true, Bool.true_and]
          cases (decide (nextE js x.sec e = 1) || decide (nextE js x.sec e = 2)) <;> cases inL ps k <;> cases decide (ap = (k : Int)) <;> cases inL q.1 k <;> rfl
        · have hd : decide (rkind l (nextS js x.sec e) = 1) = false := by simp [hk]
          rw [hd, Bool.false_and]
          have hn : ¬ (isSecB l.length (nextS js x.sec e) = true ∧ kindOf l (nextS js x.sec e).toNat = 1) := fun h => hk (rkind_one.2 h)
          cases hs : isSecB l.length (nextS js x.sec e)
          · rfl
          · have : ¬ kindOf l (nextS js x.sec e).toNat = 1 := fun h => hn ⟨hs, h⟩
            simp [this]
    rw [key]
    by_cases ho : rflankOk l js ps ap q.1 x.sec e = true
    · rw [if_pos ho, if_pos ho]
      have hs : isSecB l.length (nextS js x.sec e) = true := by
        rw [← key] at ho
        simp [guardOk] at ho
        exact ho.1.2.1
      obtain ⟨k, e1, hlt⟩ := isSecB_true hs
      refine ⟨?_, ?_, ?_⟩
      · show b.2 ++ _ = q.2 ++ _
        rw [h1]
      · show (b.1.set _ true).length = _
        rw [List.length_set, h2]
      · intro j hj
        show seenAt (b.1.set _ true) j = (inL ps j || (decide (ap = j) || inL (q.1 ++ [nextS js x.sec e]) j))
        rw [e1, Int.toNat_natCast, seenAt_set _ _ _ (by omega), h3 j hj, inL_append]
        have : inL [(k : Int)] j = decide (k = j) := by
          unfold inL
          by_cases e3 : k = j
          · simp [e3]
          · have : ¬ (k : Int) = (j : Int) := by omega
            simp [e3, this]
        rw [this]
        cases decide (k = j) <;> cases inL ps j <;> cases decide (ap = (j : Int)) <;> cases inL q.1 j <;> rfl
    · rw [if_neg ho, if_neg ho]
      exact ⟨h1, h2, h3⟩
theorem flankI_ref {l : List Sec} {js : List Jo} {ps : List Int} {ap : Int} (x : St) : ∀ (es : List Int) {b : List Bool × List Nd} {q : List Int × List Nd}, Likes l.length ps ap b q → Likes l.length ps ap (flankI l js x es b) (rflankI l js ps ap x es q)
  | [], _, _, h => h
  | e :: r, _, _, h => by
    rw [flankI, rflankI]
    exact flankI_ref x r (flankE_ref x e h)
theorem flankO_ref {l : List Sec} {js : List Jo} {ps : List Int} {ap : Int} : ∀ (p : List St) {b : List Bool × List Nd} {q : List Int × List Nd}, Likes l.length ps ap b q → Likes l.length ps ap (flankO l js p b) (rflankO l js ps ap p q)
  | [], _, _, h => h
  | x :: r, _, _, h => by
    rw [flankO, rflankO, rkind_ends]
    exact flankO_ref r (flankI_ref x _ h)
theorem any_secs (p : List St) (k : Nat) : (p.any fun x => decide (x.sec = k)) = inL (secsOf p) k := by
  unfold inL secsOf
  rw [List.any_map]
  rfl
theorem flank_ref (l : List Sec) (js : List Jo) (ap : Int) (path : List St) : flankM l js ap path = rflankM l js ap path := by
  have h : Likes l.length (secsOf path) ap (barM l.length ap path, []) ([], []) := by
    refine ⟨rfl, barM_length _ _ _, fun k hk => ?_⟩
    show seenAt (barM l.length ap path) k = _
    rw [barM_at _ _ _ _ hk, any_secs]
    show _ = (inL (secsOf path) k || (decide (ap = (k : Int)) || false))
    rw [Bool.or_false]
  exact (flankO_ref path h).1

/-! ### The overlap -/
def roverOk (l : List Sec) (js : List Jo) (sg : List Sg) (r : Rt) : Bool :=
  !r.shunt && (isSecB sg.length r.exit && (nextOk js (sgAt sg r.exit).sec (sgAt sg r.exit).fin && (isSecB l.length (nextS js (sgAt sg r.exit).sec (sgAt sg r.exit).fin) &&
    (!inL (secsOf r.path) (nextS js (sgAt sg r.exit).sec (sgAt sg r.exit).fin) && (!decide (nextS js (sgAt sg r.exit).sec (sgAt sg r.exit).fin = apM sg r.entry) && decide (lineOf l (nextS js (sgAt sg r.exit).sec (sgAt sg r.exit).fin).toNat = 0))))))
theorem over_ref (l : List Sec) (js : List Jo) (sg : List Sg) (r : Rt) : overOk l js sg r = roverOk l js sg r := by
  unfold overOk roverOk
  generalize nextS js (sgAt sg r.exit).sec (sgAt sg r.exit).fin = q
  cases r.shunt
  · cases isSecB sg.length r.exit
    · rfl
    · cases nextOk js (sgAt sg r.exit).sec (sgAt sg r.exit).fin
      · rfl
      · cases hs : isSecB l.length q
        · rfl
        · obtain ⟨k, rfl, hlt⟩ := isSecB_true hs
          rw [Int.toNat_natCast, barM_at _ _ _ _ hlt, any_secs]
          have ec : decide ((k : Int) = apM sg r.entry) = decide (apM sg r.entry = (k : Int)) := by
            by_cases e2 : apM sg r.entry = (k : Int)
            · simp [e2]
            · have : ¬ (k : Int) = apM sg r.entry := fun h => e2 h.symm
              simp [e2, this]
          rw [ec]
          cases inL (secsOf r.path) k <;> cases decide (apM sg r.entry = (k : Int)) <;> cases decide (lineOf l k = 0) <;> rfl
  · rfl
end Go.Proofs.YtbjbkaphigolnaaGreatDoor
/- A right station in which one route is another one, and a route that is made a shunt one (plain mathematics). -/
namespace Go.Proofs.YtbjbkaphigolnaaGreatDoor
open Go.RowKit

/-- a route's first error -/
def errR (l : List Sec) (js : List Jo) (sg : List Sg) (r : Rt) : Int := if routeB l js sg r = false then 9 else if r.flank ≠ flankM l js (apM sg r.entry) r.path then 10 else if r.over ≠ overM l js sg r then 11 else 0
theorem routesE_cons (l : List Sec) (js : List Jo) (sg : List Sg) (r : Rt) (rs : List Rt) : routesE l js sg (r :: rs) = if errR l js sg r ≠ 0 then errR l js sg r else routesE l js sg rs := by
  rw [routesE]
  unfold errR
  split
  · simp
  · split
    · simp
    · split
      · simp
      · simp
theorem routesE_zero {l : List Sec} {js : List Jo} {sg : List Sg} : ∀ {rs : List Rt}, routesE l js sg rs = 0 → ∀ r ∈ rs, errR l js sg r = 0
  | [], _, _, h => by cases h
  | x :: rs, h0, r, hr => by
    rw [routesE_cons] at h0
    by_cases hx : errR l js sg x = 0
    · rw [if_neg (by simpa using hx)] at h0
      rcases List.mem_cons.1 hr with e | hr
      · rw [e]; exact hx
      · exact routesE_zero h0 r hr
    · rw [if_pos hx] at h0
      exact absurd h0 hx
theorem routesE_set {l : List Sec} {js : List Jo} {sg : List Sg} (x : Rt) : ∀ {rs : List Rt} {n : Nat}, routesE l js sg rs = 0 → n < rs.length → routesE l js sg (rs.set n x) = errR l js sg x
  | y :: rs, 0, h0, _ => by
    have hy := routesE_zero h0 y List.mem_cons_self
    rw [routesE_cons, if_neg (by simpa using hy)] at h0
    rw [List.set_cons_zero, routesE_cons, h0]
    by_cases hx : errR l js sg x = 0
    · rw [if_neg (by simpa using hx), hx]
    · rw [if_pos hx]
  | y :: rs, n + 1, h0, hn => by
    have hy := routesE_zero h0 y List.mem_cons_self
    rw [routesE_cons, if_neg (by simpa using hy)] at h0
    rw [List.set_cons_succ, routesE_cons, if_neg (by simpa using hy)]
    exact routesE_set x h0 (by simpa using hn)
/-- what a right station is -/
theorem check_parts {c : Cf} (h : checkE c = 0) : checkB c.secs c.jos = true ∧ (decide (c.sigs.length ≤ 12) && sigsB c.jos c.sigs) = true ∧ (decide (c.crs.length ≤ 4) && crsB c.secs c.crs) = true ∧ c.rts.length ≤ 12 ∧ routesE c.secs c.jos c.sigs c.rts = 0 ∧ timeB c.tm = true := by
  unfold checkE at h
  cases h1 : checkB c.secs c.jos with
  | false => rw [h1] at h; simp at h
  | true =>
    rw [h1, if_neg (by decide)] at h
    cases h2 : (decide (c.sigs.length ≤ 12) && sigsB c.jos c.sigs) with
    | false => rw [h2] at h; simp at h
    | true =>
      rw [h2, if_neg (by decide)] at h
      cases h3 : (decide (c.crs.length ≤ 4) && crsB c.secs c.crs) with
      | false => rw [h3] at h; simp at h
      | true =>
        rw [h3, if_neg (by decide)] at h
        by_cases h4 : c.rts.length ≤ 12
        · rw [if_neg (by simpa using h4)] at h
          by_cases h5 : routesE c.secs c.jos c.sigs c.rts = 0
          · rw [if_neg (by simpa using h5)] at h
            cases h6 : timeB c.tm with
            | false => rw [h6] at h; simp at h
            | true => exact ⟨rfl, rfl, rfl, h4, h5, rfl⟩
          · rw [if_pos h5] at h
            exact absurd h h5
        · rw [if_pos h4] at h
          simp at h
theorem check_set {c : Cf} (h : checkE c = 0) {n : Nat} (hn : n < c.rts.length) (x : Rt) : checkE { c with rts := c.rts.set n x } = errR c.secs c.jos c.sigs x := by
  obtain ⟨h1, h2, h3, h4, h5, h6⟩ := check_parts h
  unfold checkE
  dsimp only
  rw [h1, h2, h3, h6, if_neg (by decide), if_neg (by decide), if_neg (by decide), if_neg (by rw [List.length_set]; simpa using h4), routesE_set x h5 hn]
  by_cases hx : errR c.secs c.jos c.sigs x = 0
  · rw [if_neg (by simpa using hx), hx, if_neg (by decide)]
  · rw [if_pos hx]
theorem errR_parts {l : List Sec} {js : List Jo} {sg : List Sg} {r : Rt} (h : errR l js sg r = 0) : routeB l js sg r = true ∧ r.flank = flankM l js (apM sg r.entry) r.path ∧ r.over = overM l js sg r := by
  unfold errR at h
  cases h1 : routeB l js sg r with
  | false => rw [h1] at h; simp at h
  | true =>
    rw [h1, if_neg (by decide)] at h
    by_cases h2 : r.flank = flankM l js (apM sg r.entry) r.path
    · rw [if_neg (by simpa using h2)] at h
      by_cases h3 : r.over = overM l js sg r
      · exact ⟨rfl, h2, h3⟩
      · rw [if_pos h3] at h; simp at h
    · rw [if_pos h2] at h; simp at h
/-- a right route, made a shunt one -/
theorem shunt_err {l : List Sec} {js : List Jo} {sg : List Sg} {r : Rt} (h : errR l js sg r = 0) (o : List Int) : errR l js sg { r with shunt := true, over := o } = if linedB l r.path = true then 9 else if o = [] then 0 else 11 := by
  obtain ⟨h1, h2, h3⟩ := errR_parts h
  have hb : routeB l js sg { r with shunt := true, over := o } = !linedB l r.path := by
    unfold routeB at h1 ⊢
    simp only [Bool.and_eq_true] at h1
    obtain ⟨a1, a2, a3, a4, a5, a6, ⟨a7, a8⟩, a9⟩ := h1
    dsimp only
    rw [a1, a2, a3, a4, a5, a6, a7, a8]
    simp
  have ho : overM l js sg { r with shunt := true, over := o } = [] := by
    unfold overM overOk
    simp
  unfold errR
  rw [hb, ho]
  dsimp only
  cases hl : linedB l r.path with
  | true => simp
  | false =>
    rw [if_neg (by decide), if_neg (by simpa using h2)]
    by_cases e : o = []
    · rw [if_neg (by simpa using e), if_neg (by decide), if_pos e]
    · rw [if_pos e, if_neg (by decide), if_neg e]
/-- of a right station each route's sections are sections -/
theorem path_in {c : Cf} (h : checkE c = 0) {r : Rt} (hr : r ∈ c.rts) : ∀ x ∈ r.path, isSecB c.secs.length x.sec = true := by
  obtain ⟨h1, h2, h3, h4, h5, h6⟩ := check_parts h
  obtain ⟨a, _, _⟩ := errR_parts (routesE_zero h5 r hr)
  unfold checkB at h1
  unfold routeB at a
  simp only [Bool.and_eq_true] at h1 a
  exact hangs_in h1.2.2.1 r.path _ _ _ (fun hn => next_in h1.2.2.1 hn) a.2.2.2.2.1
def linedP (l : List Sec) (p : List St) : Bool := p.any fun x => decide (0 < lineOf l x.sec.toNat)
theorem line_pos {l : List Sec} (h : sectionsB l = true) : ∀ k, 0 ≤ lineOf l k := by
  induction l with
  | nil => intro k; unfold lineOf; simp [default]
  | cons x r ih =>
    rw [sectionsB, Bool.and_eq_true] at h
    intro k
    rcases k with _ | k
    · have := h.1
      unfold secOkB at this
      simp only [Bool.and_eq_true, decide_eq_true_eq] at this
      exact this.1.2
    · exact ih h.2 k
theorem lined_eq {l : List Sec} (h : sectionsB l = true) : ∀ (p : List St), linedP l p = linedB l p
  | [] => rfl
  | x :: r => by
    have ih := lined_eq h r
    have hx := line_pos h x.sec.toNat
    unfold linedP at ih ⊢
    rw [List.any_cons, ih, linedB]
    congr 1
    by_cases e : lineOf l x.sec.toNat = 0
    · rw [e]; decide
    · have : 0 < lineOf l x.sec.toNat := by omega
      simp [e, this]
end Go.Proofs.YtbjbkaphigolnaaGreatDoor
/- ConfShunts: the walk. -/
namespace Go.Proofs.YtbjbkaphigolnaaGreatDoor
open Go.RowKit

theorem cellsR_one (l : List Ro) : ∀ u ∈ cellsR l, u.oneCell' = true := by
  intro u hu
  unfold cellsR at hu
  obtain ⟨r, _, hr⟩ := List.mem_flatMap.1 hu
  unfold Ro.cells at hr
  simp only [List.mem_cons, List.not_mem_nil, or_false] at hr
  rcases hr with rfl | rfl | rfl | rfl | rfl | rfl <;> rfl
theorem own_empty (w : World) (t : TypeId) (size : Nat) : (w.alloc (.cells #[] t)).ownsRow w.heap.size t size (.slice (some ⟨w.heap.size, 0, none⟩) 0 0) 0 [] :=
  ⟨by simp, .inr ⟨w.heap.size, 0, #[], rfl, Nat.le_refl _, heap_alloc_new w _, Nat.le_refl _, Nat.zero_le _, by simp, by simp⟩⟩

theorem ro_cell {r : Ro} {k : Nat} (hk : k < 6) : ∃ v, r.cells[k]? = some v := ⟨r.cells[k]'(by unfold Ro.cells; simpa using hk), List.getElem?_eq_getElem _⟩
theorem cellsR_get {l : List Ro} {i k : Nat} (hi : i < l.length) (hk : k < 6) : (cellsR l)[i * 6 + k]? = l[i].cells[k]? := by
  obtain ⟨v, hv⟩ := ro_cell (r := l[i]) hk
  rw [hv]
  exact cellsR_at hi k v hv
/-- a row of routes of which one was written over -/
theorem rd_splice {w : World} {b n : Nat} {cur : Array Value} {t : TypeId} {l : List Ro} {x : Ro} (h : Is w b t (splice cur (n * 6) x.cells)) (hc : cur.toList.take (l.length * 6) = cellsR l) (hs : l.length * 6 ≤ cur.size) (hn : n < l.length) : Rd w (some ⟨b, 0, none⟩) (cellsR (l.set n x)) := fun _ =>
  ⟨b, 0, rfl, h.lt, fun j u hu => by
    have hlen : (l.set n x).length = l.length := List.length_set
    have hj : j < l.length * 6 := by
      have := (List.getElem?_eq_some_iff.1 hu).1
      rw [cellsR_length, hlen] at this
      exact this
    have h6 : x.cells.length = 6 := rfl
    rw [Nat.zero_add, h.cell j, splice_at _ _ _ _ (by rw [h6]; omega), h6]
    obtain ⟨i, k, rfl, hk⟩ : ∃ i k, j = i * 6 + k ∧ k < 6 := ⟨j / 6, j % 6, by omega, by omega⟩
    have hi : i < l.length := by omega
    rw [cellsR_get (by rw [hlen]; exact hi) hk] at hu
    by_cases e : i = n
    · subst e
      rw [if_pos (by omega), show i * 6 + k - i * 6 = k by omega]
      rw [List.getElem_set_self] at hu
      exact hu
    · rw [if_neg (by omega)]
      rw [List.getElem_set_ne (Ne.symm e), ← cellsR_get hi hk, ← hc, List.getElem?_take, if_pos hj] at hu
      rw [← Array.getElem?_toList]
      exact hu⟩
/-- and then its overlap taken away -/
theorem rd_over {w : World} {b n : Nat} {l : List Ro} {x y : Ro} (h : Rd w (some ⟨b, 0, none⟩) (cellsR (l.set n x))) (hn : n < l.length) (he : ∀ k, k < 6 → k ≠ 4 → y.cells[k]? = x.cells[k]?) (v : Value) (hv : y.cells[4]? = some v) : Rd (w.setCell ⟨b, n * 6 + 4, none⟩ v) (some ⟨b, 0, none⟩) (cellsR (l.set n y)) := fun h0 => by
  have hl1 : (l.set n x).length = l.length := List.length_set
  have hl2 : (l.set n y).length = l.length := List.length_set
  obtain ⟨b', o', e, hb, hcell⟩ := h (by rw [cellsR_length, hl1]; rw [cellsR_length, hl2] at h0; exact h0)
  injection e with e
  injection e with e1 e2
  subst e1 e2
  refine ⟨b, 0, rfl, by simpa [World.setCell] using hb, fun j u hu => ?_⟩
  have hj : j < l.length * 6 := by
    have := (List.getElem?_eq_some_iff.1 hu).1
    rw [cellsR_length, hl2] at this
    exact this
  obtain ⟨i, k, rfl, hk⟩ : ∃ i k, j = i * 6 + k ∧ k < 6 := ⟨j / 6, j % 6, by omega, by omega⟩
  have hi : i < l.length := by omega
  rw [cellsR_get (by rw [hl2]; exact hi) hk] at hu
  by_cases e : i * 6 + k = n * 6 + 4
  · obtain rfl : i = n := by omega
    obtain rfl : k = 4 := by omega
    rw [List.getElem_set_self, hv] at hu
    injection hu with hu
    subst hu
    have hex : (w.cell? ⟨b, 0 + (i * 6 + 4), none⟩).isSome = true := by
      obtain ⟨z, hz⟩ := ro_cell (r := (l.set i x)[i]'(by rw [hl1]; exact hi)) hk
      rw [hcell (i * 6 + 4) z (by rw [cellsR_get (by rw [hl1]; exact hi) hk]; exact hz)]
      rfl
    rw [Nat.zero_add] at hex ⊢
    exact World.cell?_setCell_same' _ _ _ hex
  · have hux : (cellsR (l.set n x))[i * 6 + k]? = some u := by
      rw [cellsR_get (by rw [hl1]; exact hi) hk, ← hu]
      by_cases e2 : i = n
      · subst e2
        rw [List.getElem_set_self, List.getElem_set_self]
        exact (he k hk (by omega)).symm
      · rw [List.getElem_set_ne (Ne.symm e2), List.getElem_set_ne (Ne.symm e2)]
    have := hcell _ u hux
    rw [World.cell?_setCell_other _ _ _ _ (by intro e3; injection e3 with _ e3 _; omega)]
    exact this

/-- the station with one route written over, in new memory -/
def withR (C : Cm) (g c n : Nat) (x : Ro) : Cm := { C with A5 := some ⟨g, 0, none⟩, c5 := c, rs := C.rs.set n x }
theorem withR_cf (C : Cm) (g c n : Nat) (x : Ro) : (withR C g c n x).cf = { C.cf with rts := C.cf.rts.set n x.rt } := by
  unfold withR Cm.cf
  simp only [List.map_set]
theorem withR_ok {C : Cm} {g c n : Nat} {x : Ro} {W : World} (h : C.Ok W) (hx : x.Ok W) (hr : Rd W (some ⟨g, 0, none⟩) (cellsR (C.rs.set n x))) (hl : C.rs.length ≤ c) (hc : c ≤ 9223372036854775807) : (withR C g c n x).Ok W := by
  refine { h with rts := hr, each := fun r hm => ?_, l5 := ?_, b5 := ?_, k5 := hc }
  · rcases List.mem_or_eq_of_mem_set hm with k | k
    · exact h.each r k
    · rw [k]; exact hx
  · show (C.rs.set n x).length ≤ c
    rw [List.length_set]; exact hl
  · show (C.rs.set n x).length * 96 ≤ _
    rw [List.length_set]; exact h.b5
theorem withR_chk {C : Cm} {g c n : Nat} {x : Ro} {W : World} (h : (withR C g c n x).Ok W) : Calls Tryz.prog 12 #[.agg #[.slice C.A1 C.l.length C.c1, .slice C.A2 C.js.length C.c2, .slice C.A3 C.sg.length C.c3, .slice C.A4 C.cr.length C.c4, .slice (some ⟨g, 0, none⟩) C.rs.length c, .int .i64 C.tm.age, .int .i64 C.tm.brake, .int .i64 C.tm.hold, .int .i64 C.tm.budget]] W fun e w' => e = .returned (.int .i64 (checkE { C.cf with rts := C.cf.rts.set n x.rt })) ∧ Fr (fun _ => False) W w' := by
  have K := chk_any (withR C g c n x) W h
  rw [withR_cf] at K
  unfold Cm.val Cm.arr withR at K
  dsimp only at K
  rw [List.length_set] at K
  exact K

set_option maxRecDepth 100000 in
set_option maxHeartbeats 8000000 in
theorem shunts_any (C : Cm) (r : Int) (w : World) (h : C.Ok w) (hR : Rds w) (hP : Pow w) :
    Calls Tryz.prog 9 #[C.val, .int .i64 r] w fun e w' => e = .returned (.bool true) ∧ Fr (fun _ => False) w w' := by
  have f0 := (Fr.refl (fun _ => False) w).alloc (.cells C.arr 30)
  have is0 : Is (w.alloc (.cells C.arr 30)) w.heap.size 30 C.arr := Is.new w _ _
  have KL := lives_any (w.alloc (.cells C.arr 30)) (hR.fr f0) (hP.fr f0)
  have KC := fun W (f : Fr (fun _ => False) w W) => chk_any C W (h.fr f)
  unfold Cm.val at KC ⊢
  unfold Cm.arr at f0 is0 KL KC ⊢
  go_enter Tryz.func9, Tryz.ntmps9
  go_wp2_with fail
  refine KL.mono ?_
  clear KL
  rintro _ w1 ⟨rfl, f1⟩
  have F1 := fr_nil f0 f1
  have is1 := is0.fr f1 id
  clear f0 is0 f1
  obtain ⟨p0, p1, p2, p3, p4, p5, p6, p7, p8⟩ := conf_cells is1
  go_wp2_with fail
  refine (KC _ F1).mono ?_
  rintro _ w2 ⟨rfl, f2⟩
  have F2 := fr_nil F1 f2
  have is2 := is1.fr f2 id
  clear F1 is1 f2 p0 p1 p2 p3 p4 p5 p6 p7 p8 KC
  obtain ⟨p0, p1, p2, p3, p4, p5, p6, p7, p8⟩ := conf_cells is2
  by_cases hc : checkE C.cf = 0
  rotate_left
  · have hb : (checkE C.cf != 0) = true := by simpa using hc
    go_wp2_with fail
    go_ret
    exact ⟨rfl, F2⟩
  have hb : (checkE C.cf != 0) = false := by simpa using hc
  by_cases hl : C.rs.length = 0
  · have hb2 : ((C.rs.length : Int) == 0) = true := by simpa using hl
    go_wp2_with fail
    go_ret
    exact ⟨rfl, F2⟩
  have hb2 : ((C.rs.length : Int) == 0) = false := by simpa using hl
  have hparts := check_parts hc
  obtain ⟨hk1, hk2, hk3, hk4, hk5, hk6⟩ := hparts
  have hk4 : C.rs.length ≤ 12 := by have := hk4; unfold Cm.cf at this; rw [List.length_map] at this; exact this
  obtain ⟨n, hn, hnl⟩ := umod r C.rs.length (by omega) (by omega)
  go_upto_region 6 with (fail)
  rw [hn]
  clear hn
  obtain ⟨ga, oa, ha, q0, q1, q2, q3, q4, q5⟩ := rd_ro (h.rts.fr F2 fun _ _ => id) hnl
  have hok := (h.each _ (List.getElem_mem hnl))
  have her : errR C.l C.js C.sg C.rs[n].rt = 0 := routesE_zero hk5 _ (List.mem_map_of_mem (List.getElem_mem hnl))
  have hpin := path_in hc (r := C.rs[n].rt) (List.mem_map_of_mem (List.getElem_mem hnl))
  generalize hx : C.rs[n] = x at *
  have HX := Lib.hid hx
  clear hx
  have isx : Is (w2.alloc (.cells #[.int .i64 x.entry, .int .i64 x.exit, .slice x.a1 x.path.length x.c1, .slice x.a2 x.flank.length x.c2, .slice x.a3 x.over.length x.c3, .bool x.shunt] 43)) w2.heap.size 43 #[.int .i64 x.entry, .int .i64 x.exit, .slice x.a1 x.path.length x.c1, .slice x.a2 x.flank.length x.c2, .slice x.a3 x.over.length x.c3, .bool x.shunt] := Is.new w2 _ _
  have F3 := F2.alloc (.cells #[.int .i64 x.entry, .int .i64 x.exit, .slice x.a1 x.path.length x.c1, .slice x.a2 x.flank.length x.c2, .slice x.a3 x.over.length x.c3, .bool x.shunt] 43)
  have is3 := is2.alloc (.cells #[.int .i64 x.entry, .int .i64 x.exit, .slice x.a1 x.path.length x.c1, .slice x.a2 x.flank.length x.c2, .slice x.a3 x.over.length x.c3, .bool x.shunt] 43)
  have j1 : (0 : Int) ≤ (n : Int) := by omega
  have j2 : (n : Int) < (C.rs.length : Int) := by omega
  rw [ha] at p4 ⊢
  have HA := Lib.hid ha
  clear ha
  have x2 := isx.cell 2
  go_wp2_with fail
  generalize hW3 : w2.alloc (.cells #[.int .i64 x.entry, .int .i64 x.exit, .slice x.a1 x.path.length x.c1, .slice x.a2 x.flank.length x.c2, .slice x.a3 x.over.length x.c3, .bool x.shunt] 43) = w3 at *
  clear x2 p0 p1 p2 p3 p4 p5 p6 p7 p8 q0 q1 q2 q3 q4 q5
  go_loopw [7, 40] (fun v7 vi wr => ∃ (k : Nat) (b : Bool), k ≤ x.path.length ∧ v7 = .bool b ∧ vi = .int .i64 (k : Nat) ∧ (b || linedP C.l (x.path.drop k)) = linedP C.l x.path ∧ Is wr w.heap.size 30 C.arr ∧ Is wr w2.heap.size 43 #[.int .i64 x.entry, .int .i64 x.exit, .slice x.a1 x.path.length x.c1, .slice x.a2 x.flank.length x.c2, .slice x.a3 x.over.length x.c3, .bool x.shunt] ∧ Fr (fun _ => False) w wr) (fun _ i _ => x.path.length - (intOf i).toNat)
  case atStart => exact ⟨0, false, Nat.zero_le _, rfl, rfl, by simp, is3, isx, F3⟩
  case round =>
    clear is3 isx F3
    obtain ⟨k, b, hk, rfl, rfl, hT, is3, isx, F3⟩ := hrel
    by_cases hlt : k < x.path.length
    · obtain ⟨gp, op, hp, t0, t1, t2⟩ := rd_st (hok.path.fr F3 fun _ _ => id) hlt
      have hin := hpin _ (List.getElem_mem hlt)
      obtain ⟨m, hm, hml⟩ := isSecB_true hin
      rw [List.drop_eq_getElem_cons hlt] at hT
      have hm2 : x.path[k].sec = (m : Int) := hm
      have hml' : m < C.l.length := hml
      obtain ⟨gs, og, hs, s0, s1, s2⟩ := rd_sec (h.secs.fr F3 fun _ _ => id) (j := m) hml'
      unfold linedP at hT
      rw [List.any_cons, hm2, Int.toNat_natCast, lineOf_at hml'] at hT
      rw [hm2] at t0
      generalize x.path[k] = y at *
      generalize C.l[m] = z at *
      have j3 : (0 : Int) ≤ (m : Int) := by omega
      have j4 : (m : Int) < (C.l.length : Int) := by omega
      have F4 := F3.alloc (.cells #[.int .i64 (m : Int), .int .i64 y.inn, .int .i64 y.out] 45)
      have is4 := is3.alloc (.cells #[.int .i64 (m : Int), .int .i64 y.inn, .int .i64 y.out] 45)
      have isx4 := isx.alloc (.cells #[.int .i64 (m : Int), .int .i64 y.inn, .int .i64 y.out] 45)
      obtain ⟨p0, p1, p2, p3, p4, p5, p6, p7, p8⟩ := conf_cells is4
      have s2b : (wr.alloc (.cells #[.int .i64 (m : Int), .int .i64 y.inn, .int .i64 y.out] 45)).cell? ⟨gs, og + m * 3 + 2, none⟩ = some (.int .i64 z.line) := by
        rw [World.cell?_alloc_some _ _ _ (by rw [s2]; rfl)]
        exact s2
      have hk2 : x.path.length ≤ 5864062014634 := by have := hok.b1; omega
      rw [hp]
      rw [hs] at p0 ⊢
      have HP := Lib.hid hp
      have HS := Lib.hid hs
      have HT := Lib.hid hT
      clear hp hs hT hm
      cases b with
      | true =>
        go_wp2_with fail
        go_roundw
        case rel => exact ⟨k + 1, true, by omega, rfl, by go_num, HT.out, is4, (by rw [HP.out] at isx4; exact isx4), F4⟩
        case measure => simp [intOf]; omega
      | false =>
        by_cases hz : 0 < z.line
        · have hzb : decide (0 < z.line) = true := by simpa using hz
          go_wp2_with fail
          go_roundw
          case rel => exact ⟨k + 1, true, by omega, rfl, by go_num, (by have := HT.out; rw [hzb] at this; exact this), is4, (by rw [HP.out] at isx4; exact isx4), F4⟩
          case measure => simp [intOf]; omega
        · have hzb : decide (0 < z.line) = false := by simpa using hz
          go_wp2_with fail
          go_roundw
          case rel => exact ⟨k + 1, false, by omega, rfl, by go_num, (by have := HT.out; rw [hzb] at this; exact this), is4, (by rw [HP.out] at isx4; exact isx4), F4⟩
          case measure => simp [intOf]; omega
    · obtain rfl : k = x.path.length := by omega
      rw [List.drop_length] at hT
      have hT2 : b = linedP C.l x.path := by simpa [linedP] using hT
      have HTL := Lib.hid hT2
      clear hT hT2
      obtain ⟨p0, p1, p2, p3, p4, p5, p6, p7, p8⟩ := conf_cells is3
      have x0 := isx.cell 0
      have x1 := isx.cell 1
      have x2 := isx.cell 2
      have x3 := isx.cell 3
      have x4 := isx.cell 4
      have x5 := isx.cell 5
      have xz := isx.frozen 5
      have hne : w.heap.size ≠ w2.heap.size := by have := is2.lt; omega
      have isS := is3.far (p := ⟨w2.heap.size, 5, none⟩) hne (.bool true)
      have isT := isx.set 5 (.bool true)
      have F4 := F3.setCell (p := ⟨w2.heap.size, 5, none⟩) (.inr F2.size) (.bool true)
      simp at isT
      go_upto_region 14 with (fail)
      generalize hWs : wr.setCell ⟨w2.heap.size, 5, none⟩ (.bool true) = ws at *
      clear p0 p1 p2 p3 p4 p5 p6 p7 p8 x0 x1 x2 x3 x4 x5 xz is3 isx F3 hWs
      obtain ⟨p0, p1, p2, p3, p4, p5, p6, p7, p8⟩ := conf_cells isS
      go_upto_region 15 with (fail)
      have isB : Is (ws.alloc (.cells C.arr 30)) ws.heap.size 30 C.arr := Is.new ws _ _
      have isS5 := isS.alloc (.cells C.arr 30)
      have isT5 := isT.alloc (.cells C.arr 30)
      have F5 := F4.alloc (.cells C.arr 30)
      have hTs := isT.lt
      have hBT : ws.heap.size ≠ w2.heap.size := by omega
      unfold Cm.arr at isB isS5 isT5 F5
      generalize ws.alloc (.cells #[.slice C.A1 C.l.length C.c1, .slice C.A2 C.js.length C.c2, .slice C.A3 C.sg.length C.c3, .slice C.A4 C.cr.length C.c4, .slice C.A5 C.rs.length C.c5, .int .i64 C.tm.age, .int .i64 C.tm.brake, .int .i64 C.tm.hold, .int .i64 C.tm.budget] 30) = wt at *
      clear p0 p1 p2 p3 p4 p5 p6 p7 p8
      obtain ⟨i0, hi0, hz0, hz1, hz2⟩ := info_parts Tryz.infoRo
      have c4 := (isS5.alloc (.cells #[] 43)).cell 4
      simp at c4
      have F6 := F5.alloc (.cells #[] 43)
      have hrd := h.rts.fr F6 fun _ _ => id
      go_wp2_with (at_builtin; refine wpList_append_wide _ rfl _ _ 26 rfl wt.heap.size 43 i0 _ 6 96 Tryz.underlying26 hi0 hz0 hz1 hz2 rfl (by decide) _ 0 [] rfl (own_empty wt 43 6) C.A5 C.c5 C.rs.length (cellsR C.rs) (cellsR_length _) rfl hrd (cellsR_one _) (by unfold maxLen; omega) (by omega) (by simp) ?_)
      intro v' w6 hown hg hat
      obtain ⟨A', c', rfl, hc1, hc2, hA', _⟩ := wide_form hown
      obtain ⟨g', rfl, hg'⟩ := hA' (by omega)
      have hgl : wt.heap.size ≤ g' := (World.ownsRow.lt hown g' rfl).1
      have f6 : Fr (fun k => k = wt.heap.size) (wt.alloc (.cells #[] 43)) w6 := (Fr.refl _ _).grown hg fun k hk => .inl (by injection hk with hk; exact hk.symm)
      have F7 : Fr (fun _ => False) w w6 := F6.grown hg fun k hk => .inr (by injection hk with hk; have := F5.size; simp at hk; omega)
      have isB6 := (isB.alloc (.cells #[] 43)).fr f6 (by have := isB.lt; omega)
      have isT6 := (isT5.alloc (.cells #[] 43)).fr f6 (by have := isT5.lt; omega)
      have b4 := isB6.cell 4
      have bz := isB6.frozen 4
      simp at b4
      have hBl := isB.lt
      have hTl := isT5.lt
      obtain ⟨cur, hcur, hcs, hct⟩ : ∃ cur, Is w6 g' 43 cur ∧ cur.size = c' * 6 ∧ cur.toList.take (C.rs.length * 6) = cellsR C.rs := by
        rcases hown.2 with ⟨hv, _⟩ | ⟨g, cap, cur, hv, _, hb, _, _, hs, ht⟩
        · cases hv
        · injection hv with hv _ hv3
          injection hv with hv
          injection hv with hv
          subst hv hv3
          exact ⟨cur, hb, hs, ht⟩
      clear hown hg hat f6 isB isT5 F6 F5 c4 hrd isS5
      go_upto_region 16 with (fail)
      have isB7 := isB6.set 4 (.slice (some ⟨g', 0, none⟩) C.rs.length c')
      have isT7 := isT6.far (p := ⟨ws.heap.size, 4, none⟩) (by simpa using Ne.symm hBT) (.slice (some ⟨g', 0, none⟩) C.rs.length c')
      have isN7 := hcur.far (p := ⟨ws.heap.size, 4, none⟩) (by simp; omega) (.slice (some ⟨g', 0, none⟩) C.rs.length c')
      have F8 := F7.setCell (p := ⟨ws.heap.size, 4, none⟩) (.inr (Nat.le_trans F2.size (Nat.le_of_lt hTs))) (.slice (some ⟨g', 0, none⟩) C.rs.length c')
      simp at isB7
      generalize w6.setCell ⟨ws.heap.size, 4, none⟩ (.slice (some ⟨g', 0, none⟩) C.rs.length c') = w7 at *
      clear isB6 isT6 hcur F7 b4 bz
      have hcell : ∀ k v, k < 6 → x.cells[k]? = some v → w7.cell? ⟨g', n * 6 + k, none⟩ = some v := fun k v hk hv => by
        rw [isN7.cell, ← Array.getElem?_toList]
        have e1 : (cellsR C.rs)[n * 6 + k]? = some v := by rw [cellsR_get hnl hk, HX.out]; exact hv
        rw [← hct, List.getElem?_take, if_pos (by omega)] at e1
        exact e1
      have e0 := hcell 0 _ (by decide) rfl
      have e1 := hcell 1 _ (by decide) rfl
      have e2 := hcell 2 _ (by decide) rfl
      have e3 := hcell 3 _ (by decide) rfl
      have e4 := hcell 4 _ (by decide) rfl
      have e5 := hcell 5 _ (by decide) rfl
      rw [Nat.add_zero] at e0
      have ez := isN7.frozen
      have b4 := isB7.cell 4
      have t0 := isT7.cell 0
      have t1 := isT7.cell 1
      have t2 := isT7.cell 2
      have t3 := isT7.cell 3
      have t4 := isT7.cell 4
      have t5 := isT7.cell 5
      simp only [List.getElem?_toArray, List.getElem?_cons_zero, List.getElem?_cons_succ] at b4 t0 t1 t2 t3 t4 t5
      go_upto_region 17 with (fail)
      have isN8 := Is.setCells ({ x with shunt := true } : Ro).cells (n * 6) w7 cur isN7
      have F9 : Fr (fun _ => False) w _ := F8.setCells ({ x with shunt := true } : Ro).cells (n * 6) (b := g') (.inr (by have := F2.size; omega))
      have fs9 := (Fr.refl (fun k => k = g') w7).setCells ({ x with shunt := true } : Ro).cells (n * 6) (b := g') (.inl rfl)
      have isB9 := isB7.fr fs9 (by omega)
      have isT9 := isT7.fr fs9 (by omega)
      have hrd9 := rd_splice isN8 hct (by omega) hnl
      simp only [Ro.cells, World.setCells] at F9 isB9 isT9 hrd9
      simp only [Ro.cells, World.setCells] at isN8
      generalize ((((((w7.setCell ⟨g', n * 6, none⟩ (.int .i64 x.entry)).setCell ⟨g', n * 6 + 1, none⟩ (.int .i64 x.exit)).setCell ⟨g', n * 6 + 2, none⟩ (.slice x.a1 x.path.length x.c1)).setCell ⟨g', n * 6 + 3, none⟩ (.slice x.a2 x.flank.length x.c2)).setCell ⟨g', n * 6 + 4, none⟩ (.slice x.a3 x.over.length x.c3)).setCell ⟨g', n * 6 + 5, none⟩ (.bool true)) = w9 at *
      clear e0 e1 e2 e3 e4 e5 ez b4 t0 t1 t2 t3 t4 t5 isB7 isT7 isN7 F8 fs9 hcell
      have hx9 : ({ x with shunt := true } : Ro).Ok w9 := by
        have a := hok.fr F9
        exact ⟨a.path, a.flank, a.over, a.l1, a.l2, a.l3, a.b1, a.b2, a.b3, a.k1, a.k2, a.k3⟩
      unfold maxLen at hc2
      have K1 := withR_chk (withR_ok (h.fr F9) hx9 hrd9 hc1 (by omega))
      have hE1 : checkE { C.cf with rts := C.cf.rts.set n ({ x with shunt := true } : Ro).rt } = if linedB C.l x.path = true then 9 else if x.over = [] then 0 else 11 := by
        rw [check_set hc (by unfold Cm.cf; rw [List.length_map]; exact hnl)]
        exact shunt_err her x.over
      rw [hE1] at K1
      clear hE1
      obtain ⟨E1, hE1⟩ : ∃ E, E = if linedB C.l x.path = true then (9 : Int) else if x.over = [] then 0 else 11 := ⟨_, rfl⟩
      rw [← hE1] at K1
      have HE1 := Lib.hid hE1
      clear hE1
      obtain ⟨p0, p1, p2, p3, p4, p5, p6, p7, p8⟩ : w9.cell? ⟨ws.heap.size, 0, none⟩ = some (.slice C.A1 C.l.length C.c1) ∧ w9.cell? ⟨ws.heap.size, 1, none⟩ = some (.slice C.A2 C.js.length C.c2) ∧ w9.cell? ⟨ws.heap.size, 2, none⟩ = some (.slice C.A3 C.sg.length C.c3) ∧ w9.cell? ⟨ws.heap.size, 3, none⟩ = some (.slice C.A4 C.cr.length C.c4) ∧ w9.cell? ⟨ws.heap.size, 4, none⟩ = some (.slice (some ⟨g', 0, none⟩) C.rs.length c') ∧ w9.cell? ⟨ws.heap.size, 5, none⟩ = some (.int .i64 C.tm.age) ∧ w9.cell? ⟨ws.heap.size, 6, none⟩ = some (.int .i64 C.tm.brake) ∧ w9.cell? ⟨ws.heap.size, 7, none⟩ = some (.int .i64 C.tm.hold) ∧ w9.cell? ⟨ws.heap.size, 8, none⟩ = some (.int .i64 C.tm.budget) :=
        ⟨isB9.cell 0, isB9.cell 1, isB9.cell 2, isB9.cell 3, isB9.cell 4, isB9.cell 5, isB9.cell 6, isB9.cell 7, isB9.cell 8⟩
      go_wp2_with fail
      refine K1.mono ?_
      rintro _ w10 ⟨rfl, f10⟩
      have F10 := fr_nil F9 f10
      have isB10 := isB9.fr f10 id
      have isT10 := isT9.fr f10 id
      have isN10 := isN8.fr f10 id
      have hrd10 := hrd9.fr f10 fun _ _ => id
      clear K1 hx9 isB9 isT9 isN8 hrd9 F9 f10 p0 p1 p2 p3 p4 p5 p6 p7 p8
      have ez := isN10.frozen
      obtain ⟨v4, e4⟩ : ∃ v, w10.cell? ⟨g', n * 6 + 4, none⟩ = some v := by
        obtain ⟨b', o', e, _, hcl⟩ := hrd10 (by rw [cellsR_length, List.length_set]; omega)
        injection e with e
        injection e with e1 e2
        subst e1 e2
        have := hcl (n * 6 + 4) _ (by rw [cellsR_get (by rw [List.length_set]; exact hnl) (by decide), List.getElem_set_self]; rfl)
        rw [Nat.zero_add] at this
        exact ⟨_, this⟩
      have b4 := isB10.cell 4
      simp only [List.getElem?_toArray, List.getElem?_cons_zero, List.getElem?_cons_succ] at b4
      go_upto_region 19 with (fail)
      have hrd11 := rd_over (y := { x with shunt := true, over := [], a3 := none, c3 := 0 }) hrd10 hnl (fun k hk h4 => match k with
        | 0 => rfl
        | 1 => rfl
        | 2 => rfl
        | 3 => rfl
        | 4 => absurd rfl h4
        | 5 => rfl
        | k + 6 => absurd hk (by omega)) (.slice none 0 0) rfl
      have F11 := F10.setCell (p := ⟨g', n * 6 + 4, none⟩) (.inr (by show w.heap.size ≤ g'; have := F2.size; omega)) (.slice none 0 0)
      have isB11 := isB10.far (p := ⟨g', n * 6 + 4, none⟩) (by show ws.heap.size ≠ g'; omega) (.slice none 0 0)
      have isT11 := isT10.far (p := ⟨g', n * 6 + 4, none⟩) (by show w2.heap.size ≠ g'; omega) (.slice none 0 0)
      generalize w10.setCell ⟨g', n * 6 + 4, none⟩ (.slice none 0 0) = w11 at *
      clear isN10 ez e4 b4 hrd10 F10 isB10 isT10
      have hx11 : ({ x with shunt := true, over := [], a3 := none, c3 := 0 } : Ro).Ok w11 := by
        have a := hok.fr F11
        exact ⟨a.path, a.flank, (fun h0 => by simp at h0), a.l1, a.l2, Nat.le_refl _, a.b1, a.b2, Nat.zero_le _, a.k1, a.k2, Nat.zero_le _⟩
      have K2 := withR_chk (withR_ok (h.fr F11) hx11 hrd11 hc1 (by omega))
      have hE2 : checkE { C.cf with rts := C.cf.rts.set n ({ x with shunt := true, over := [], a3 := none, c3 := 0 } : Ro).rt } = if linedB C.l x.path = true then 9 else 0 := by
        rw [check_set hc (by unfold Cm.cf; rw [List.length_map]; exact hnl)]
        exact (shunt_err her []).trans (by rw [if_pos rfl]; rfl)
      rw [hE2] at K2
      clear hE2
      obtain ⟨E2, hE2⟩ : ∃ E, E = if linedB C.l x.path = true then (9 : Int) else 0 := ⟨_, rfl⟩
      rw [← hE2] at K2
      have HE2 := Lib.hid hE2
      clear hE2
      obtain ⟨p0, p1, p2, p3, p4, p5, p6, p7, p8⟩ : w11.cell? ⟨ws.heap.size, 0, none⟩ = some (.slice C.A1 C.l.length C.c1) ∧ w11.cell? ⟨ws.heap.size, 1, none⟩ = some (.slice C.A2 C.js.length C.c2) ∧ w11.cell? ⟨ws.heap.size, 2, none⟩ = some (.slice C.A3 C.sg.length C.c3) ∧ w11.cell? ⟨ws.heap.size, 3, none⟩ = some (.slice C.A4 C.cr.length C.c4) ∧ w11.cell? ⟨ws.heap.size, 4, none⟩ = some (.slice (some ⟨g', 0, none⟩) C.rs.length c') ∧ w11.cell? ⟨ws.heap.size, 5, none⟩ = some (.int .i64 C.tm.age) ∧ w11.cell? ⟨ws.heap.size, 6, none⟩ = some (.int .i64 C.tm.brake) ∧ w11.cell? ⟨ws.heap.size, 7, none⟩ = some (.int .i64 C.tm.hold) ∧ w11.cell? ⟨ws.heap.size, 8, none⟩ = some (.int .i64 C.tm.budget) :=
        ⟨isB11.cell 0, isB11.cell 1, isB11.cell 2, isB11.cell 3, isB11.cell 4, isB11.cell 5, isB11.cell 6, isB11.cell 7, isB11.cell 8⟩
      go_wp2_with fail
      refine K2.mono ?_
      rintro _ w12 ⟨rfl, f12⟩
      have F12 := fr_nil F11 f12
      have x4 := (isT11.fr f12 id).cell 4
      simp only [List.getElem?_toArray, List.getElem?_cons_zero, List.getElem?_cons_succ] at x4
      have hbl : b = linedB C.l x.path := by
        refine HTL.out.trans (lined_eq ?_ _)
        have := hk1
        unfold checkB at this
        simp only [Bool.and_eq_true] at this
        exact this.2.1
      have e1 := HE1.out
      have e2 := HE2.out
      clear K2 HE1 HE2 HTL p0 p1 p2 p3 p4 p5 p6 p7 p8 F11 isB11 isT11 f12 hx11 hrd11
      rw [← hbl] at e1 e2
      clear hbl
      cases b with
      | true =>
        rw [if_pos rfl] at e1 e2
        subst e1 e2
        go_wp2_with fail
        go_ret
        exact ⟨rfl, F12⟩
      | false =>
        rw [if_neg (by decide)] at e1 e2
        by_cases ho : x.over = []
        · rw [if_pos ho] at e1
          subst e1 e2
          have ho2 : x.over.length = 0 := by rw [ho]; rfl
          rw [ho2] at x4
          go_wp2_with fail
          go_ret
          exact ⟨rfl, F12⟩
        · rw [if_neg ho] at e1
          subst e1 e2
          have ho2 : 0 < x.over.length := List.length_pos_iff.2 ho
          have ho3 : decide ((0 : Int) < (x.over.length : Int)) = true := by simp; omega
          go_wp2_with fail
          go_ret
          exact ⟨rfl, F12⟩
end Go.Proofs.YtbjbkaphigolnaaGreatDoor
/- A world for the witnesses: the listed variables hold what their initialisers lay. -/
namespace Go.Proofs.YtbjbkaphigolnaaGreatDoor
open Go.ChangeShapes Go.WideShapes Go.ChangeAt Go.RowKit Go.Lib

def litOf : DataW Unit → List Value
  | .lit (.int k z) => [.int k z]
  | _ => []
def litsOf : DataW Unit → List Value
  | .agg l => l.flatMap fun d => match d with
    | .agg l2 => l2.flatMap litOf
    | d => litOf d
  | _ => []
noncomputable def laidWorld (os : Os) : World :=
  let N := (World.settled Tryz.prog os).heap.size
  let w0 := World.holding Tryz.prog os ⟨#[
    .cells #[.string ⟨#[118, 97, 108, 117, 101, 32, 111, 117, 116, 32, 111, 102, 32, 114, 97, 110, 103, 101]⟩] 240,
    .cells #[.string ⟨#[105, 110, 118, 97, 108, 105, 100, 32, 115, 121, 110, 116, 97, 120]⟩] 240,
    .cells (((List.range 21).map fun i => Value.int .u16 (whiteT.getD i 0 : Int))).toArray 232,
    .cells #[.slice (some ⟨N + 2, 0, none⟩) 7 7, .slice none 0 0, .int .i64 2] 229], #[], []⟩
  let put (h : Array Obj) (g : Nat) (cs : Array Value) : Array Obj := h.modify g fun
    | .cells _ t frozen => .cells cs t frozen
    | o => o
  let h0 := put w0.heap 0 (litsOf Rows.laid_strings_asciiSpace).toArray
  let h2 := put h0 2 #[.pointer (some ⟨N + 3, 0, none⟩)]
  let h3 := put h2 3 #[.iface 238 (.pointer (some ⟨N + 1, 0, none⟩))]
  let h4 := put h3 4 #[.iface 238 (.pointer (some ⟨N, 0, none⟩))]
  let h5 := put h4 5 (litsOf Rows.laid_internal_strconv_uint64pow10).toArray
  let h6 := put h5 6 (litsOf Rows.laid_unicode_utf8_first).toArray
  let h7 := put h6 7 (litsOf Rows.laid_unicode_utf8_acceptRanges).toArray
  let h8 := put h7 8 (litsOf Rows.laid_math_bits_deBruijn32tab).toArray
  let h9 := put h8 9 (litsOf Rows.laid_math_bits_deBruijn64tab).toArray
  { w0 with heap := h9 }
theorem g8 : Tryz.prog.globalNamed "math/bits.deBruijn32tab" = some 8 := by kernel_rfl
theorem g9 : Tryz.prog.globalNamed "math/bits.deBruijn64tab" = some 9 := by kernel_rfl
/-- an empty configuration, a number -/
def wArgs : Array Value := #[.agg zeroCf, .int .i64 0]
noncomputable abbrev N0 : Nat := (World.settled Tryz.prog default).heap.size
theorem piece0 (os : Os) : LaidIn Tryz.prog ((laidWorld os).forCall (fun _ _ => 0) ⟨#[], wArgs, []⟩).memory [("math/bits.deBruijn32tab", Rows.laid_math_bits_deBruijn32tab)] [8] :=
  LaidIn.of_run [8] 8 (by kernel_rfl) (by kernel_rfl) (by kernel_rfl) (by kernel_rfl)
theorem piece1 (os : Os) : LaidIn Tryz.prog ((laidWorld os).forCall (fun _ _ => 0) ⟨#[], wArgs, []⟩).memory [("math/bits.deBruijn64tab", Rows.laid_math_bits_deBruijn64tab)] [9] :=
  LaidIn.of_run [9] 8 (by kernel_rfl) (by kernel_rfl) (by kernel_rfl) (by kernel_rfl)
theorem piece2 (os : Os) : LaidIn Tryz.prog ((laidWorld os).forCall (fun _ _ => 0) ⟨#[], wArgs, []⟩).memory [("internal/strconv.uint64pow10", Rows.laid_internal_strconv_uint64pow10)] [5] :=
  LaidIn.of_run [5] 8 (by kernel_rfl) (by kernel_rfl) (by kernel_rfl) (by kernel_rfl)
theorem piece3 (os : Os) : LaidIn Tryz.prog ((laidWorld os).forCall (fun _ _ => 0) ⟨#[], wArgs, []⟩).memory [("unicode/utf8.acceptRanges", Rows.laid_unicode_utf8_acceptRanges)] [7] :=
  LaidIn.of_run [7] 8 (by kernel_rfl) (by kernel_rfl) (by kernel_rfl) (by kernel_rfl)
theorem piece4 (os : Os) : LaidIn Tryz.prog ((laidWorld os).forCall (fun _ _ => 0) ⟨#[], wArgs, []⟩).memory [("strconv.ErrRange", Rows.laid_strconv_ErrRange)] [4, N0] :=
  LaidIn.of_run [4, N0] 8 (by kernel_rfl) (by kernel_rfl) (by kernel_rfl) (by kernel_rfl)
theorem piece5 (os : Os) : LaidIn Tryz.prog ((laidWorld os).forCall (fun _ _ => 0) ⟨#[], wArgs, []⟩).memory [("strconv.ErrSyntax", Rows.laid_strconv_ErrSyntax)] [3, N0 + 1] :=
  LaidIn.of_run [3, N0 + 1] 8 (by kernel_rfl) (by kernel_rfl) (by kernel_rfl) (by kernel_rfl)
theorem piece6 (os : Os) : LaidIn Tryz.prog ((laidWorld os).forCall (fun _ _ => 0) ⟨#[], wArgs, []⟩).memory [("unicode.White_Space", Rows.laid_unicode_White_Space)] [2, N0 + 3, N0 + 2] :=
  LaidIn.of_run [2, N0 + 3, N0 + 2] 8 (by kernel_rfl) (by kernel_rfl) (by kernel_rfl) (by kernel_rfl)
theorem piece7 (os : Os) : LaidIn Tryz.prog ((laidWorld os).forCall (fun _ _ => 0) ⟨#[], wArgs, []⟩).memory [("strings.asciiSpace", Rows.laid_strings_asciiSpace)] [0] :=
  LaidIn.of_run [0] 8 (by kernel_rfl) (by kernel_rfl) (by kernel_rfl) (by kernel_rfl)
theorem piece8 (os : Os) : LaidIn Tryz.prog ((laidWorld os).forCall (fun _ _ => 0) ⟨#[], wArgs, []⟩).memory [("unicode/utf8.first", Rows.laid_unicode_utf8_first)] [6] :=
  LaidIn.of_run [6] 8 (by kernel_rfl) (by kernel_rfl) (by kernel_rfl) (by kernel_rfl)
theorem laid_met (os : Os) : laidMet Tryz.prog Rows.confShuntsRow.laid ((laidWorld os).forCall (fun _ _ => 0) ⟨#[], wArgs, []⟩).memory :=
  (((((((((piece0 os).append (piece1 os) (by kernel_rfl)).append (piece2 os) (by kernel_rfl)).append (piece3 os) (by kernel_rfl)).append (piece4 os) (by kernel_rfl)).append (piece5 os) (by kernel_rfl)).append (piece6 os) (by kernel_rfl)).append (piece7 os) (by kernel_rfl)).append (piece8 os) (by kernel_rfl)).met
end Go.Proofs.YtbjbkaphigolnaaGreatDoor
/- A configuration that came in, of small bulk: how many things it holds in all. -/
namespace Go.Proofs.YtbjbkaphigolnaaGreatDoor
open Go.RowKit

theorem bulk_pos {H : Type} (d : DataW H) : 1 ≤ Rows.uptoBulk d := by
  cases d with
  | lit l => cases l <;> simp [Rows.uptoBulk]
  | _ => simp [Rows.uptoBulk]
theorem bulk_len {H : Type} : ∀ es : List (DataW H), es.length ≤ Rows.uptoBulkAll es
  | [] => Nat.le_refl _
  | d :: r => by
    have ih := bulk_len r
    have h1 := bulk_pos d
    simp only [Rows.uptoBulkAll, List.length_cons]
    omega
theorem sl_small {H : Type} {d : DataW H} {n : Nat} (h : SL d n) : n ≤ Rows.uptoBulk d := by
  rcases h with ⟨_, rfl⟩ | ⟨es, rest, rfl, rfl⟩
  · exact Nat.zero_le _
  · have := bulk_len es
    simp only [Rows.uptoBulk]
    omega
/-- how many things a route holds -/
def Ro.total (r : Ro) : Nat := 1 + r.path.length + r.flank.length + r.over.length
def totalR : List Ro → Nat
  | [] => 0
  | r :: l => r.total + totalR l
/-- how many things a configuration holds -/
def Cm.total (C : Cm) : Nat := C.l.length + C.js.length + C.sg.length + C.cr.length + totalR C.rs
theorem ro_small {H : Type} {w : World} {r : Ro} {d : DataW H} (h : RoIn w r d) : r.total ≤ Rows.uptoBulk d := by
  obtain ⟨_, d0, d1, d2, d3, d4, d5, rfl, s2, s3, s4⟩ := h
  have a := sl_small s2
  have b := sl_small s3
  have c := sl_small s4
  unfold Ro.total
  simp only [Rows.uptoBulk, Rows.uptoBulkAll]
  omega
theorem ros_small {H : Type} {w : World} : ∀ (l : List Ro) (es : List (DataW H)), es.length = l.length → (∀ i (hi : i < l.length), ∃ x, es[i]? = some x ∧ RoIn w l[i] x) → totalR l ≤ Rows.uptoBulkAll es
  | [], _, _, _ => Nat.zero_le _
  | r :: l, [], hl, _ => by simp at hl
  | r :: l, e :: es, hl, h => by
    obtain ⟨x, hx, hr⟩ := h 0 (by simp)
    simp only [List.getElem?_cons_zero, Option.some.injEq] at hx
    subst hx
    have a := ro_small hr
    have b := ros_small l es (by simpa using hl) fun i hi => by
      obtain ⟨x, hx, hr⟩ := h (i + 1) (by simpa using hi)
      exact ⟨x, by simpa using hx, by simpa using hr⟩
    simp only [totalR, Rows.uptoBulkAll]
    simp only [List.getElem_cons_zero] at a
    omega
theorem totalR_mem : ∀ (l : List Ro) (r : Ro), r ∈ l → r.total ≤ totalR l
  | r :: l, q, h => by
    simp only [totalR]
    rcases List.mem_cons.1 h with rfl | h
    · omega
    · have := totalR_mem l q h
      omega
theorem totalR_len : ∀ l : List Ro, l.length ≤ totalR l
  | [] => Nat.le_refl _
  | r :: l => by
    have := totalR_len l
    simp only [totalR, List.length_cons, Ro.total]
    omega
theorem conf_total {H : Type} {w : World} {C : Cm} {d : DataW H} (h : CfIn w C d) : C.total ≤ Rows.uptoBulk d := by
  obtain ⟨d1, d2, d3, d4, d5, d6, rfl, s1, s2, s3, s4, s5⟩ := h.data
  have a1 := sl_small s1
  have a2 := sl_small s2
  have a3 := sl_small s3
  have a4 := sl_small s4
  have a5 : totalR C.rs ≤ Rows.uptoBulk d5 := by
    rcases s5 with ⟨_, e⟩ | ⟨es, rest, rfl, hl, he⟩
    · rw [e]; exact Nat.zero_le _
    · have := ros_small C.rs es hl he
      simp only [Rows.uptoBulk]
      omega
  unfold Cm.total
  simp only [Rows.uptoBulk, Rows.uptoBulkAll]
  omega
/-- what came in, of small bulk, is a configuration that the contracts take -/
theorem small_conf {H : Type} {w : World} {C : Cm} {d : DataW H} {ds : List (DataW H)} (hk : Rows.uptoSmall H (d :: ds) = true) (h : CfIn w C d) : C.Ok w ∧ C.total ≤ 1048576 := by
  have hk2 : Rows.uptoBulkAll (d :: ds) ≤ 1048576 := of_decide_eq_true hk
  simp only [Rows.uptoBulkAll] at hk2
  have ht := conf_total h
  have m1 := h.m1
  have m2 := h.m2
  have m3 := h.m3
  have m4 := h.m4
  have m5 := h.m5
  unfold maxLen at m1 m2 m3 m4 m5
  have hl := totalR_len C.rs
  have htt : C.total = C.l.length + C.js.length + C.sg.length + C.cr.length + totalR C.rs := rfl
  refine ⟨⟨h.secs, h.jos, h.sigs, h.crs, h.rts, fun r hr => ?_, h.l1, h.l2, h.l3, h.l4, h.l5, by omega, by omega, by omega, by omega, by omega, by omega, by omega, by omega, by omega, by omega⟩, by omega⟩
  have hrt := totalR_mem C.rs r hr
  have hre : r.total = 1 + r.path.length + r.flank.length + r.over.length := rfl
  obtain ⟨d1, d2, d3, d4, d5, d6, rfl, s1, s2, s3, s4, s5⟩ := h.data
  rcases s5 with ⟨_, e⟩ | ⟨es, rest, rfl, _, he⟩
  · rw [e] at hr; cases hr
  · obtain ⟨i, hi, rfl⟩ := List.mem_iff_getElem.1 hr
    obtain ⟨x, hxi, ⟨r1, r2, r3, i1, i2, i3, n1, n2, n3⟩, _⟩ := he i hi
    unfold maxLen at n1 n2 n3
    exact ⟨r1, r2, r3, i1, i2, i3, by omega, by omega, by omega, by omega, by omega, by omega⟩
end Go.Proofs.YtbjbkaphigolnaaGreatDoor
/- All that the laws of stage 6 have in common. -/
namespace Go.Proofs.YtbjbkaphigolnaaGreatDoor
theorem all6 : True := trivial
end Go.Proofs.YtbjbkaphigolnaaGreatDoor

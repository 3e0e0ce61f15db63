/- Contracts and plain mathematics of earlier stages: Stat, Statr, Cmem. -/
import Derived.Test.YtnnacdkijeoeoaaKu
namespace Go.Proofs.Ytnnacdkijeoeoaa

structure Nd where
  sec : Int
  pos : Int
deriving DecidableEq
structure Sg where
  sec : Int
  fin : Int
deriving DecidableEq
instance : Inhabited Nd := ⟨⟨0, 0⟩⟩
instance : Inhabited Sg := ⟨⟨0, 0⟩⟩
structure Rt where
  entry : Int
  exit : Int
  path : List St
  flank : List Nd
  over : List Int
  shunt : Bool
instance : Inhabited Rt := ⟨⟨0, 0, [], [], [], false⟩⟩
structure Tm where
  age : Int
  brake : Int
  hold : Int
  budget : Int
structure Cf where
  secs : List Sec
  jos : List Jo
  sigs : List Sg
  crs : List Int
  rts : List Rt
  tm : Tm

def sgAt (sg : List Sg) (e : Int) : Sg := sg.getD e.toNat default
def lineOf (l : List Sec) (s : Nat) : Int := (l.getD s default).line
theorem lineOf_at {l : List Sec} {s : Nat} (h : s < l.length) : lineOf l s = l[s].line := by
  unfold lineOf
  rw [List.getD_eq_getElem?_getD, List.getElem?_eq_getElem h]
  rfl
theorem sgAt_nat {sg : List Sg} {k : Nat} (h : k < sg.length) : sgAt sg k = sg[k] := by
  unfold sgAt
  rw [Int.toNat_natCast, List.getD_eq_getElem?_getD, List.getElem?_eq_getElem h]
  rfl
/-- a section's number of ends; none, if it is no section -/
def endsOf (l : List Sec) (s : Int) : Int := if isSecB l.length s = true then endsM (kindOf l s.toNat) else 0
/-- an entry signal's section; -1, if it is no signal -/
def apM (sg : List Sg) (e : Int) : Int := if isSecB sg.length e = true then (sgAt sg e).sec else -1

/-! ### What is barred -/
def bset (b : List Bool) (s : Int) : List Bool := if isSecB b.length s = true then b.set s.toNat true else b
def bsetL : List St → List Bool → List Bool
  | [], b => b
  | x :: r, b => bsetL r (bset b x.sec)
def barM (n : Nat) (ap : Int) (path : List St) : List Bool := bsetL path (bset (List.replicate n false) ap)
theorem bset_length (b : List Bool) (s : Int) : (bset b s).length = b.length := by
  unfold bset
  split
  · rw [List.length_set]
  · rfl
theorem bsetL_length : ∀ (r : List St) (b : List Bool), (bsetL r b).length = b.length
  | [], _ => rfl
  | x :: r, b => by rw [bsetL, bsetL_length r, bset_length]
theorem barM_length (n : Nat) (ap : Int) (path : List St) : (barM n ap path).length = n := by
  unfold barM
  rw [bsetL_length, bset_length, List.length_replicate]
theorem bset_at (b : List Bool) (s : Int) (k : Nat) (hk : k < b.length) : seenAt (bset b s) k = (decide (s = k) || seenAt b k) := by
  unfold bset
  split
  · rename_i h
    obtain ⟨j, rfl, hj⟩ := isSecB_true h
    rw [Int.toNat_natCast, seenAt_set _ _ _ hj]
    congr 1
    by_cases e : j = k <;> simp [e]
    omega
  · rename_i h
    have : s ≠ k := by
      rintro rfl
      exact h (isSecB_nat hk)
    simp [this]
theorem bsetL_at : ∀ (r : List St) (b : List Bool) (k : Nat), k < b.length → seenAt (bsetL r b) k = (r.any (fun x => decide (x.sec = k)) || seenAt b k)
  | [], _, _, _ => rfl
  | x :: r, b, k, hk => by
    rw [bsetL, bsetL_at r _ k (by rw [bset_length]; exact hk), bset_at b x.sec k hk, List.any_cons]
    cases r.any (fun x => decide (x.sec = k)) <;> cases decide (x.sec = (k : Int)) <;> cases seenAt b k <;> rfl
theorem barM_at (n : Nat) (ap : Int) (path : List St) (k : Nat) (hk : k < n) : seenAt (barM n ap path) k = (path.any (fun x => decide (x.sec = k)) || decide (ap = k)) := by
  unfold barM
  rw [bsetL_at _ _ _ (by rw [bset_length, List.length_replicate]; exact hk), bset_at _ _ _ (by rw [List.length_replicate]; exact hk)]
  have : seenAt (List.replicate n false) k = false := by
    unfold seenAt
    rw [List.getD_eq_getElem?_getD, List.getElem?_replicate]
    split <;> rfl
  rw [this, Bool.or_false]

/-! ### The flank -/
def guardOk (l : List Sec) (js : List Jo) (s e : Int) : Bool :=
  nextOk js s e && (isSecB l.length (nextS js s e) && (decide (kindOf l (nextS js s e).toNat = 1) && (decide (nextE js s e = 1) || decide (nextE js s e = 2))))
def guardN (js : List Jo) (s e : Int) : Nd := ⟨nextS js s e, 3 - nextE js s e⟩
def endsL (m : Int) : List Int := (List.range m.toNat).map fun (k : Nat) => (k : Int)
/-- one end of a step: barred and flank ahead of it, and behind it -/
def flankE (l : List Sec) (js : List Jo) (x : St) (e : Int) (q : List Bool × List Nd) : List Bool × List Nd :=
  if (decide (e = x.inn) || decide (e = x.out)) = true then q
  else if (guardOk l js x.sec e && !seenAt q.1 (nextS js x.sec e).toNat) = true then (q.1.set (nextS js x.sec e).toNat true, q.2 ++ [guardN js x.sec e]) else q
def flankI (l : List Sec) (js : List Jo) (x : St) : List Int → List Bool × List Nd → List Bool × List Nd
  | [], q => q
  | e :: r, q => flankI l js x r (flankE l js x e q)
def flankO (l : List Sec) (js : List Jo) : List St → List Bool × List Nd → List Bool × List Nd
  | [], q => q
  | x :: r, q => flankO l js r (flankI l js x (endsL (endsOf l x.sec)) q)
def flankM (l : List Sec) (js : List Jo) (ap : Int) (path : List St) : List Nd := (flankO l js path (barM l.length ap path, [])).2

/-! ### The overlap, the sections that a route locks -/
def overOk (l : List Sec) (js : List Jo) (sg : List Sg) (r : Rt) : Bool :=
  !r.shunt && (isSecB sg.length r.exit && (nextOk js (sgAt sg r.exit).sec (sgAt sg r.exit).fin && (isSecB l.length (nextS js (sgAt sg r.exit).sec (sgAt sg r.exit).fin) &&
    (decide (lineOf l (nextS js (sgAt sg r.exit).sec (sgAt sg r.exit).fin).toNat = 0) && !seenAt (barM l.length (apM sg r.entry) r.path) (nextS js (sgAt sg r.exit).sec (sgAt sg r.exit).fin).toNat))))
def overM (l : List Sec) (js : List Jo) (sg : List Sg) (r : Rt) : List Int := if overOk l js sg r = true then [nextS js (sgAt sg r.exit).sec (sgAt sg r.exit).fin] else []
def rawLocks (r : Rt) : List Int := r.over ++ (r.path.map St.sec ++ r.flank.map Nd.sec)

/-! ### Which stations are right -/
def sigsB (js : List Jo) : List Sg → Bool
  | [] => true
  | s :: r => nextOk js s.sec s.fin && (!r.contains s && sigsB js r)
def crsB (l : List Sec) : List Int → Bool
  | [] => true
  | s :: r => isSecB l.length s && (decide (lineOf l s.toNat = 0) && (!r.contains s && crsB l r))
def hangsB (l : List Sec) (js : List Jo) : Bool → Int → Int → List St → Bool
  | _, _, _, [] => true
  | ok, s, i, x :: r => ok && (decide (x.sec = s) && (decide (x.inn = i) && (posOk (kindOf l s.toNat) i x.out && hangsB l js (nextOk js s x.out) (nextS js s x.out) (nextE js s x.out) r)))
def onceB : List Bool → List St → Bool
  | _, [] => true
  | b, x :: r => !seenAt b x.sec.toNat && onceB (b.set x.sec.toNat true) r
def leaveS (x : St) : Sg := ⟨x.sec, x.out⟩
def clearB (sg : List Sg) : List St → Bool
  | [] => true
  | x :: r => !sg.contains (leaveS x) && clearB sg r
def endB (js : List Jo) (sg : List Sg) (exit : Int) (x : St) : Bool := if exit = -1 then !nextOk js x.sec x.out else decide (sgAt sg exit = leaveS x)
def linedB (l : List Sec) : List St → Bool
  | [] => false
  | x :: r => !decide (lineOf l x.sec.toNat = 0) || linedB l r
def lastSt (p : List St) : St := p.getD (p.length - 1) default
def routeB (l : List Sec) (js : List Jo) (sg : List Sg) (r : Rt) : Bool :=
  isSecB sg.length r.entry && ((decide (r.exit = -1) || isSecB sg.length r.exit) && (decide (1 ≤ r.path.length) && (decide (r.path.length ≤ 8) &&
    (hangsB l js (nextOk js (sgAt sg r.entry).sec (sgAt sg r.entry).fin) (nextS js (sgAt sg r.entry).sec (sgAt sg r.entry).fin) (nextE js (sgAt sg r.entry).sec (sgAt sg r.entry).fin) r.path &&
    (onceB ((List.replicate l.length false).set (sgAt sg r.entry).sec.toNat true) r.path && ((clearB sg (r.path.take (r.path.length - 1)) && endB js sg r.exit (lastSt r.path)) && !(r.shunt && linedB l r.path)))))))
/-- the first error of the routes: 0, if there is none -/
def routesE (l : List Sec) (js : List Jo) (sg : List Sg) : List Rt → Int
  | [] => 0
  | r :: rs => if routeB l js sg r = false then 9 else if r.flank ≠ flankM l js (apM sg r.entry) r.path then 10 else if r.over ≠ overM l js sg r then 11 else routesE l js sg rs
def timeB (t : Tm) : Bool :=
  (decide (1 ≤ t.age) && decide (t.age ≤ 8)) && ((decide (0 ≤ t.brake) && decide (t.brake ≤ 8)) && ((decide (t.age + t.brake + 1 ≤ t.hold) && decide (t.hold ≤ 40)) && (decide (1 ≤ t.budget) && decide (t.budget ≤ 1000000))))
def checkE (c : Cf) : Int :=
  if checkB c.secs c.jos = false then 6 else if (decide (c.sigs.length ≤ 12) && sigsB c.jos c.sigs) = false then 7 else if (decide (c.crs.length ≤ 4) && crsB c.secs c.crs) = false then 8
  else if ¬ c.rts.length ≤ 12 then 9 else if routesE c.secs c.jos c.sigs c.rts ≠ 0 then routesE c.secs c.jos c.sigs c.rts else if timeB c.tm = false then 12 else 0
end Go.Proofs.Ytnnacdkijeoeoaa

namespace Go.Proofs.Ytnnacdkijeoeoaa

def inL (l : List Int) (n : Int) : Bool := l.any fun x => decide (x = n)
theorem inL_iff (l : List Int) (n : Int) : inL l n = true ↔ n ∈ l := by
  unfold inL
  rw [List.any_eq_true]
  constructor
  · rintro ⟨x, hx, h⟩
    rw [decide_eq_true_eq] at h
    exact h ▸ hx
  · intro h
    exact ⟨n, h, by simp⟩
theorem inL_append (a b : List Int) (n : Int) : inL (a ++ b) n = (inL a n || inL b n) := by
  unfold inL
  rw [List.any_append]
/-- a section's kind; -1: it is none -/
def rkind (l : List Sec) (s : Int) : Int := if isSecB l.length s = true then kindOf l s.toNat else -1
theorem rkind_ends (l : List Sec) (s : Int) : endsM (rkind l s) = endsOf l s := by
  unfold rkind endsOf
  split
  · rfl
  · decide
def secsOf (p : List St) : List Int := p.map St.sec

/-! ### The flank -/
def rflankOk (l : List Sec) (js : List Jo) (ps : List Int) (ap : Int) (listed : List Int) (s e : Int) : Bool :=
  nextOk js s e && (decide (rkind l (nextS js s e) = 1) && ((decide (nextE js s e = 1) || decide (nextE js s e = 2)) && (!inL ps (nextS js s e) && (!decide (nextS js s e = ap) && !inL listed (nextS js s e)))))
def rflankE (l : List Sec) (js : List Jo) (ps : List Int) (ap : Int) (x : St) (e : Int) (q : List Int × List Nd) : List Int × List Nd :=
  if (decide (e = x.inn) || decide (e = x.out)) = true then q
  else if rflankOk l js ps ap q.1 x.sec e = true then (q.1 ++ [nextS js x.sec e], q.2 ++ [guardN js x.sec e]) else q
def rflankI (l : List Sec) (js : List Jo) (ps : List Int) (ap : Int) (x : St) : List Int → List Int × List Nd → List Int × List Nd
  | [], q => q
  | e :: r, q => rflankI l js ps ap x r (rflankE l js ps ap x e q)
def rflankO (l : List Sec) (js : List Jo) (ps : List Int) (ap : Int) : List St → List Int × List Nd → List Int × List Nd
  | [], q => q
  | x :: r, q => rflankO l js ps ap r (rflankI l js ps ap x (endsL (endsM (rkind l x.sec))) q)
def rflankM (l : List Sec) (js : List Jo) (ap : Int) (path : List St) : List Nd := (rflankO l js (secsOf path) ap path ([], [])).2

/-- what is barred, and what is listed -/
def Likes (n : Nat) (ps : List Int) (ap : Int) (b : List Bool × List Nd) (q : List Int × List Nd) : Prop :=
  b.2 = q.2 ∧ b.1.length = n ∧ ∀ k : Nat, k < n → seenAt b.1 k = (inL ps k || (decide (ap = k) || inL q.1 k))
theorem rkind_one {l : List Sec} {s : Int} : rkind l s = 1 ↔ isSecB l.length s = true ∧ kindOf l s.toNat = 1 := by
  unfold rkind
  split
  · rename_i h; simp [h]
  · rename_i h; simp [h]
theorem flankE_ref {l : List Sec} {js : List Jo} {ps : List Int} {ap : Int} (x : St) (e : Int) {b : List Bool × List Nd} {q : List Int × List Nd} (h : Likes l.length ps ap b q) :
    Likes l.length ps ap (flankE l js x e b) (rflankE l js ps ap x e q) := by
  obtain ⟨h1, h2, h3⟩ := h
  unfold flankE rflankE
  by_cases hc : (decide (e = x.inn) || decide (e = x.out)) = true
  · rw [if_pos hc, if_pos hc]
    exact ⟨h1, h2, h3⟩
  · rw [if_neg hc, if_neg hc]
    have key : (guardOk l js x.sec e && !seenAt b.1 (nextS js x.sec e).toNat) = rflankOk l js ps ap q.1 x.sec e := by
      unfold guardOk rflankOk
      cases nextOk js x.sec e
      · rfl
      · simp only [Bool.true_and]
        by_cases hk : rkind l (nextS js x.sec e) = 1
        · obtain ⟨hs, hk1⟩ := rkind_one.1 hk
          rw [hs, hk1, hk]
          obtain ⟨k, e1, hlt⟩ := isSecB_true hs
          have := h3 k hlt
          rw [e1, Int.toNat_natCast, this]
          have ec : decide ((k : Int) = ap) = decide (ap = (k : Int)) := by
            by_cases e2 : ap = (k : Int)
            · simp [e2]
            · have : ¬ (k : Int) = ap := fun h => e2 h.symm
              simp [e2, this]
          rw [ec]
          simp only [decide_true, Bool.true_and]
          cases (decide (nextE js x.sec e = 1) || decide (nextE js x.sec e = 2)) <;> cases inL ps k <;> cases decide (ap = (k : Int)) <;> cases inL q.1 k <;> rfl
        · have hd : decide (rkind l (nextS js x.sec e) = 1) = false := by simp [hk]
          rw [hd, Bool.false_and]
          have hn : ¬ (isSecB l.length (nextS js x.sec e) = true ∧ kindOf l (nextS js x.sec e).toNat = 1) := fun h => hk (rkind_one.2 h)
          cases hs : isSecB l.length (nextS js x.sec e)
          · rfl
          · have : ¬ kindOf l (nextS js x.sec e).toNat = 1 := fun h => hn ⟨hs, h⟩
            simp [this]
    rw [key]
    by_cases ho : rflankOk l js ps ap q.1 x.sec e = true
    · rw [if_pos ho, if_pos ho]
      have hs : isSecB l.length (nextS js x.sec e) = true := by
        rw [← key] at ho
        simp [guardOk] at ho
        exact ho.1.2.1
      obtain ⟨k, e1, hlt⟩ := isSecB_true hs
      refine ⟨?_, ?_, ?_⟩
      · show b.2 ++ _ = q.2 ++ _
        rw [h1]
      · show (b.1.set _ true).length = _
        rw [List.length_set, h2]
      · intro j hj
        show seenAt (b.1.set _ true) j = (inL ps j || (decide (ap = j) || inL (q.1 ++ [nextS js x.sec e]) j))
        rw [e1, Int.toNat_natCast, seenAt_set _ _ _ (by omega), h3 j hj, inL_append]
        have : inL [(k : Int)] j = decide (k = j) := by
          unfold inL
          by_cases e3 : k = j
          · simp [e3]
          · have : ¬ (k : Int) = (j : Int) := by omega
            simp [e3, this]
        rw [this]
        cases decide (k = j) <;> cases inL ps j <;> cases decide (ap = (j : Int)) <;> cases inL q.1 j <;> rfl
    · rw [if_neg ho, if_neg ho]
      exact ⟨h1, h2, h3⟩
theorem flankI_ref {l : List Sec} {js : List Jo} {ps : List Int} {ap : Int} (x : St) : ∀ (es : List Int) {b : List Bool × List Nd} {q : List Int × List Nd}, Likes l.length ps ap b q → Likes l.length ps ap (flankI l js x es b) (rflankI l js ps ap x es q)
  | [], _, _, h => h
  | e :: r, _, _, h => by
    rw [flankI, rflankI]
    exact flankI_ref x r (flankE_ref x e h)
theorem flankO_ref {l : List Sec} {js : List Jo} {ps : List Int} {ap : Int} : ∀ (p : List St) {b : List Bool × List Nd} {q : List Int × List Nd}, Likes l.length ps ap b q → Likes l.length ps ap (flankO l js p b) (rflankO l js ps ap p q)
  | [], _, _, h => h
  | x :: r, _, _, h => by
    rw [flankO, rflankO, rkind_ends]
    exact flankO_ref r (flankI_ref x _ h)
theorem any_secs (p : List St) (k : Nat) : (p.any fun x => decide (x.sec = k)) = inL (secsOf p) k := by
  unfold inL secsOf
  rw [List.any_map]
  rfl
theorem flank_ref (l : List Sec) (js : List Jo) (ap : Int) (path : List St) : flankM l js ap path = rflankM l js ap path := by
  have h : Likes l.length (secsOf path) ap (barM l.length ap path, []) ([], []) := by
    refine ⟨rfl, barM_length _ _ _, fun k hk => ?_⟩
    show seenAt (barM l.length ap path) k = _
    rw [barM_at _ _ _ _ hk, any_secs]
    show _ = (inL (secsOf path) k || (decide (ap = (k : Int)) || false))
    rw [Bool.or_false]
  exact (flankO_ref path h).1

/-! ### The overlap -/
def roverOk (l : List Sec) (js : List Jo) (sg : List Sg) (r : Rt) : Bool :=
  !r.shunt && (isSecB sg.length r.exit && (nextOk js (sgAt sg r.exit).sec (sgAt sg r.exit).fin && (isSecB l.length (nextS js (sgAt sg r.exit).sec (sgAt sg r.exit).fin) &&
    (!inL (secsOf r.path) (nextS js (sgAt sg r.exit).sec (sgAt sg r.exit).fin) && (!decide (nextS js (sgAt sg r.exit).sec (sgAt sg r.exit).fin = apM sg r.entry) && decide (lineOf l (nextS js (sgAt sg r.exit).sec (sgAt sg r.exit).fin).toNat = 0))))))
theorem over_ref (l : List Sec) (js : List Jo) (sg : List Sg) (r : Rt) : overOk l js sg r = roverOk l js sg r := by
  unfold overOk roverOk
  generalize nextS js (sgAt sg r.exit).sec (sgAt sg r.exit).fin = q
  cases r.shunt
  · cases isSecB sg.length r.exit
    · rfl
    · cases nextOk js (sgAt sg r.exit).sec (sgAt sg r.exit).fin
      · rfl
      · cases hs : isSecB l.length q
        · rfl
        · obtain ⟨k, rfl, hlt⟩ := isSecB_true hs
          rw [Int.toNat_natCast, barM_at _ _ _ _ hlt, any_secs]
          have ec : decide ((k : Int) = apM sg r.entry) = decide (apM sg r.entry = (k : Int)) := by
            by_cases e2 : apM sg r.entry = (k : Int)
            · simp [e2]
            · have : ¬ (k : Int) = apM sg r.entry := fun h => e2 h.symm
              simp [e2, this]
          rw [ec]
          cases inL (secsOf r.path) k <;> cases decide (apM sg r.entry = (k : Int)) <;> cases decide (lineOf l k = 0) <;> rfl
  · rfl
end Go.Proofs.Ytnnacdkijeoeoaa

namespace Go.Proofs.Ytnnacdkijeoeoaa
open Go.RowKit

/-! ### Slices of small structs -/
def cellsN (l : List Nd) : List Value := l.flatMap fun s => [.int .i64 s.sec, .int .i64 s.pos]
def cellsG (l : List Sg) : List Value := l.flatMap fun s => [.int .i64 s.sec, .int .i64 s.fin]
theorem cellsN_length (l : List Nd) : (cellsN l).length = l.length * 2 := by
  induction l with
  | nil => rfl
  | cons v r ih =>
    have e : cellsN (v :: r) = [.int .i64 v.sec, .int .i64 v.pos] ++ cellsN r := rfl
    rw [e, List.length_append, ih, List.length_cons]
    simp
    omega
theorem cellsG_length (l : List Sg) : (cellsG l).length = l.length * 2 := by
  induction l with
  | nil => rfl
  | cons v r ih =>
    have e : cellsG (v :: r) = [.int .i64 v.sec, .int .i64 v.fin] ++ cellsG r := rfl
    rw [e, List.length_append, ih, List.length_cons]
    simp
    omega
theorem cellsN_snoc (l : List Nd) (v : Nd) : cellsN (l ++ [v]) = cellsN l ++ [.int .i64 v.sec, .int .i64 v.pos] := by
  unfold cellsN
  rw [List.flatMap_append]
  rfl
theorem cellsN_at {l : List Nd} {j : Nat} (h : j < l.length) : (cellsN l)[j * 2]? = some (.int .i64 l[j].sec) ∧ (cellsN l)[j * 2 + 1]? = some (.int .i64 l[j].pos) := by
  induction l generalizing j with
  | nil => simp at h
  | cons v r ih =>
    have e : cellsN (v :: r) = [.int .i64 v.sec, .int .i64 v.pos] ++ cellsN r := rfl
    rcases j with _ | j
    · rw [e]; simp
    · have := ih (j := j) (by simpa using h)
      rw [e, show (j + 1) * 2 = 2 + j * 2 by omega, show 2 + j * 2 + 1 = 2 + (j * 2 + 1) by omega]
      rw [List.getElem?_append_right (by simp), List.getElem?_append_right (by simp)]
      simpa using this
theorem cellsG_at {l : List Sg} {j : Nat} (h : j < l.length) : (cellsG l)[j * 2]? = some (.int .i64 l[j].sec) ∧ (cellsG l)[j * 2 + 1]? = some (.int .i64 l[j].fin) := by
  induction l generalizing j with
  | nil => simp at h
  | cons v r ih =>
    have e : cellsG (v :: r) = [.int .i64 v.sec, .int .i64 v.fin] ++ cellsG r := rfl
    rcases j with _ | j
    · rw [e]; simp
    · have := ih (j := j) (by simpa using h)
      rw [e, show (j + 1) * 2 = 2 + j * 2 by omega, show 2 + j * 2 + 1 = 2 + (j * 2 + 1) by omega]
      rw [List.getElem?_append_right (by simp), List.getElem?_append_right (by simp)]
      simpa using this
theorem rd_nd {w : World} {A : Option Addr} {l : List Nd} (h : Rd w A (cellsN l)) {j : Nat} (hj : j < l.length) : ∃ g o, A = some ⟨g, o, none⟩ ∧ w.cell? ⟨g, o + j * 2, none⟩ = some (.int .i64 l[j].sec) ∧ w.cell? ⟨g, o + j * 2 + 1, none⟩ = some (.int .i64 l[j].pos) := by
  obtain ⟨h0, h1⟩ := cellsN_at hj
  obtain ⟨g, o, rfl, _, hc⟩ := h (by have := (List.getElem?_eq_some_iff.1 h0).1; omega)
  exact ⟨g, o, rfl, hc _ _ h0, hc _ _ h1⟩
theorem rd_sg {w : World} {A : Option Addr} {l : List Sg} (h : Rd w A (cellsG l)) {j : Nat} (hj : j < l.length) : ∃ g o, A = some ⟨g, o, none⟩ ∧ w.cell? ⟨g, o + j * 2, none⟩ = some (.int .i64 l[j].sec) ∧ w.cell? ⟨g, o + j * 2 + 1, none⟩ = some (.int .i64 l[j].fin) := by
  obtain ⟨h0, h1⟩ := cellsG_at hj
  obtain ⟨g, o, rfl, _, hc⟩ := h (by have := (List.getElem?_eq_some_iff.1 h0).1; omega)
  exact ⟨g, o, rfl, hc _ _ h0, hc _ _ h1⟩
theorem rd_int {w : World} {A : Option Addr} {l : List Int} (h : Rd w A (l.map (Value.int .i64))) {j : Nat} (hj : j < l.length) : ∃ g o, A = some ⟨g, o, none⟩ ∧ w.cell? ⟨g, o + j, none⟩ = some (.int .i64 l[j]) := by
  have h0 : (l.map (Value.int .i64))[j]? = some (.int .i64 l[j]) := by rw [List.getElem?_map, List.getElem?_eq_getElem hj]; rfl
  obtain ⟨g, o, rfl, _, hc⟩ := h (by have := (List.getElem?_eq_some_iff.1 h0).1; omega)
  exact ⟨g, o, rfl, hc _ _ h0⟩

/-! ### Routes -/
structure Ro where
  entry : Int
  exit : Int
  a1 : Option Addr
  c1 : Nat
  path : List St
  a2 : Option Addr
  c2 : Nat
  flank : List Nd
  a3 : Option Addr
  c3 : Nat
  over : List Int
  shunt : Bool
instance : Inhabited Ro := ⟨⟨0, 0, none, 0, [], none, 0, [], none, 0, [], false⟩⟩
def Ro.rt (r : Ro) : Rt := ⟨r.entry, r.exit, r.path, r.flank, r.over, r.shunt⟩
def Ro.cells (r : Ro) : List Value := [.int .i64 r.entry, .int .i64 r.exit, .slice r.a1 r.path.length r.c1, .slice r.a2 r.flank.length r.c2, .slice r.a3 r.over.length r.c3, .bool r.shunt]
def Ro.val (r : Ro) : Value := .agg #[.int .i64 r.entry, .int .i64 r.exit, .slice r.a1 r.path.length r.c1, .slice r.a2 r.flank.length r.c2, .slice r.a3 r.over.length r.c3, .bool r.shunt]
def cellsR (l : List Ro) : List Value := l.flatMap Ro.cells
structure Ro.Ok (w : World) (r : Ro) : Prop where
  path : Rd w r.a1 (cellsT r.path)
  flank : Rd w r.a2 (cellsN r.flank)
  over : Rd w r.a3 (r.over.map (Value.int .i64))
  l1 : r.path.length ≤ r.c1
  l2 : r.flank.length ≤ r.c2
  l3 : r.over.length ≤ r.c3
  b1 : r.path.length * 24 ≤ 140737488351232
  b2 : r.flank.length * 16 ≤ 140737488351232
  b3 : r.over.length * 8 ≤ 140737488351232
  k1 : r.c1 ≤ 9223372036854775807
  k2 : r.c2 ≤ 9223372036854775807
  k3 : r.c3 ≤ 9223372036854775807
theorem Ro.Ok.fr {w w1 : World} {r : Ro} (h : r.Ok w) (f : Fr (fun _ => False) w w1) : r.Ok w1 :=
  { h with path := h.path.fr f fun _ _ => id, flank := h.flank.fr f fun _ _ => id, over := h.over.fr f fun _ _ => id }
theorem Ro.Ok.drewN {w : World} {r : Ro} (h : r.Ok w) (n : Nat) : r.Ok (w.drewN n) := h.fr ((Fr.refl _ _).drewN n)
theorem cellsR_at {l : List Ro} {j : Nat} (h : j < l.length) (k : Nat) (u : Value) (hu : l[j].cells[k]? = some u) : (cellsR l)[j * 6 + k]? = some u := by
  induction l generalizing j with
  | nil => simp at h
  | cons v r ih =>
    have e : cellsR (v :: r) = v.cells ++ cellsR r := rfl
    have hl : v.cells.length = 6 := rfl
    rcases j with _ | j
    · have hk : k < v.cells.length := (List.getElem?_eq_some_iff.1 hu).1
      rw [e, Nat.zero_mul, Nat.zero_add, List.getElem?_append_left hk]
      exact hu
    · have := ih (j := j) (by simpa using h) (by simpa using hu)
      rw [e, List.getElem?_append_right (by rw [hl]; omega), hl, show (j + 1) * 6 + k - 6 = j * 6 + k by omega]
      exact this
theorem rd_ro {w : World} {A : Option Addr} {l : List Ro} (h : Rd w A (cellsR l)) {j : Nat} (hj : j < l.length) : ∃ g o, A = some ⟨g, o, none⟩ ∧
    w.cell? ⟨g, o + j * 6, none⟩ = some (.int .i64 l[j].entry) ∧ w.cell? ⟨g, o + j * 6 + 1, none⟩ = some (.int .i64 l[j].exit) ∧
    w.cell? ⟨g, o + j * 6 + 2, none⟩ = some (.slice l[j].a1 l[j].path.length l[j].c1) ∧ w.cell? ⟨g, o + j * 6 + 3, none⟩ = some (.slice l[j].a2 l[j].flank.length l[j].c2) ∧
    w.cell? ⟨g, o + j * 6 + 4, none⟩ = some (.slice l[j].a3 l[j].over.length l[j].c3) ∧ w.cell? ⟨g, o + j * 6 + 5, none⟩ = some (.bool l[j].shunt) := by
  have h0 := cellsR_at hj 0 _ rfl
  obtain ⟨g, o, rfl, _, hc⟩ := h (by have := (List.getElem?_eq_some_iff.1 h0).1; omega)
  refine ⟨g, o, rfl, ?_, ?_, ?_, ?_, ?_, ?_⟩
  · exact hc _ _ h0
  · rw [Nat.add_assoc]; exact hc _ _ (cellsR_at hj 1 _ rfl)
  · rw [Nat.add_assoc]; exact hc _ _ (cellsR_at hj 2 _ rfl)
  · rw [Nat.add_assoc]; exact hc _ _ (cellsR_at hj 3 _ rfl)
  · rw [Nat.add_assoc]; exact hc _ _ (cellsR_at hj 4 _ rfl)
  · rw [Nat.add_assoc]; exact hc _ _ (cellsR_at hj 5 _ rfl)

/-! ### Configurations -/
structure Cm where
  A1 : Option Addr
  c1 : Nat
  l : List Sec
  A2 : Option Addr
  c2 : Nat
  js : List Jo
  A3 : Option Addr
  c3 : Nat
  sg : List Sg
  A4 : Option Addr
  c4 : Nat
  cr : List Int
  A5 : Option Addr
  c5 : Nat
  rs : List Ro
  tm : Tm
def Cm.cf (C : Cm) : Cf := ⟨C.l, C.js, C.sg, C.cr, C.rs.map Ro.rt, C.tm⟩
def Cm.arr (C : Cm) : Array Value := #[.slice C.A1 C.l.length C.c1, .slice C.A2 C.js.length C.c2, .slice C.A3 C.sg.length C.c3, .slice C.A4 C.cr.length C.c4, .slice C.A5 C.rs.length C.c5,
  .int .i64 C.tm.age, .int .i64 C.tm.brake, .int .i64 C.tm.hold, .int .i64 C.tm.budget]
def Cm.val (C : Cm) : Value := .agg C.arr
structure Cm.Ok (w : World) (C : Cm) : Prop where
  secs : Rd w C.A1 (cellsS C.l)
  jos : Rd w C.A2 (cellsJ C.js)
  sigs : Rd w C.A3 (cellsG C.sg)
  crs : Rd w C.A4 (C.cr.map (Value.int .i64))
  rts : Rd w C.A5 (cellsR C.rs)
  each : ∀ r ∈ C.rs, r.Ok w
  l1 : C.l.length ≤ C.c1
  l2 : C.js.length ≤ C.c2
  l3 : C.sg.length ≤ C.c3
  l4 : C.cr.length ≤ C.c4
  l5 : C.rs.length ≤ C.c5
  b1 : C.l.length * 24 ≤ 140737488351232
  b2 : C.js.length * 32 ≤ 140737488351232
  b3 : C.sg.length * 16 ≤ 140737488351232
  b4 : C.cr.length * 8 ≤ 140737488351232
  b5 : C.rs.length * 96 ≤ 140737488351232
  k1 : C.c1 ≤ 9223372036854775807
  k2 : C.c2 ≤ 9223372036854775807
  k3 : C.c3 ≤ 9223372036854775807
  k4 : C.c4 ≤ 9223372036854775807
  k5 : C.c5 ≤ 9223372036854775807
theorem Cm.Ok.fr {w w1 : World} {C : Cm} (h : C.Ok w) (f : Fr (fun _ => False) w w1) : C.Ok w1 :=
  { h with secs := h.secs.fr f fun _ _ => id, jos := h.jos.fr f fun _ _ => id, sigs := h.sigs.fr f fun _ _ => id, crs := h.crs.fr f fun _ _ => id, rts := h.rts.fr f fun _ _ => id, each := fun r hr => (h.each r hr).fr f }
end Go.Proofs.Ytnnacdkijeoeoaa


/- Plain mathematics of the interlocking's state: what fits, what the calls answer. Nothing here speaks of the program's text. -/
import Derived.Test.YtnnacdkijeoeoaaLm
import Derived.Test.YtnnacdkijeoeoaaKe
namespace Go.Proofs.Ytnnacdkijeoeoaa.Lk

def inB (a b n : Int) : Bool := decide (a ≤ n) && decide (n ≤ b)
theorem inB_iff {a b n : Int} : inB a b n = true ↔ a ≤ n ∧ n ≤ b := by simp [inB]
theorem inB_no {a b n : Int} : inB a b n = false ↔ n < a ∨ b < n := by
  unfold inB
  rw [Bool.and_eq_false_iff, decide_eq_false_iff_not, decide_eq_false_iff_not]
  omega
def tmB (n : Int) : Bool := inB 0 4294967295 n
def rsB (r : Rt) (s : Rs) : Bool := inB 0 5 s.st && (inB 0 r.path.length s.nxt && (tmB s.since && tmB s.mark))
def moB (m : Mo) : Bool := inB 0 2 m.cmd && inB (-1) 4294967295 m.oth
def lnB (l : Ln) : Bool := [l.ask, l.dn, l.gr, l.told, l.pa, l.pd, l.pg].all tmB && inB 0 4294967296 l.since
def rtsB : List Rt → List Rs → Bool
  | r :: rs, s :: ss => rsB r s && rtsB rs ss
  | _, _ => true
def lensB (c : Cf) (k : Kp) : Bool := decide (k.own.length = c.secs.length) && (decide (k.rts.length = c.rts.length) && (decide (k.pts.length = c.secs.length) && (decide (k.crs.length = c.crs.length) && (decide (k.lns.length = 4) && decide (k.rss.length = c.secs.length)))))
def suitsB (c : Cf) (k : Kp) : Bool := lensB c k && (k.own.all (inB (-2) c.rts.length) && (rtsB c.rts k.rts && (k.pts.all moB && (k.crs.all moB && (k.lns.all lnB && k.rss.all (inB 0 4294967296))))))
def fitsB (c : Cf) (k : Kp) : Bool := decide (checkE c = 0) && suitsB c k

/-! ### What the calls do -/
def cmdM (m : Mo) (now cmd : Int) : Mo := ⟨cmd, if m.cmd = cmd then m.oth else now⟩
/-- is the section the approach of a locked route? -/
def aheadB (sg : List Sg) : List Rt → List Rs → Int → Bool
  | r :: rs, x :: xs, s => (!decide (x.st = 0) && decide (apM sg r.entry = s)) || aheadB sg rs xs s
  | _, _, _ => false
def ownAt (own : List Int) (s : Int) : Int := own.getD s.toNat 0
/-- may the route inherit what this number owns? -/
def inhB (rts : List Rt) (r : Rt) (o : Int) (s : Int) : Bool := isSecB rts.length (o - 1) && (decide ((rts.getD (o - 1).toNat default).exit = r.entry) && (rts.getD (o - 1).toNat default).over.contains s)
def canB (rts : List Rt) (own : List Int) (r : Rt) (s : Int) : Bool := decide (ownAt own s = 0) || inhB rts r (ownAt own s) s
/-- the line that a path goes out on; 0: none -/
def lineM (l : List Sec) : List St → Int
  | [] => 0
  | x :: r => max (lineOf l x.sec.toNat) (lineM l r)
def askAt (lns : List Ln) (n : Int) : Int := (lns.getD n.toNat default).ask
def takeL (v : Int) : List Int → List Int → List Int
  | [], o => o
  | s :: l, o => takeL v l (o.set s.toNat v)
def ptsL (now : Int) : List Nd → List Mo → List Mo
  | [], p => p
  | n :: l, p => ptsL now l (p.set n.sec.toNat (cmdM (p.getD n.sec.toNat default) now n.pos))
def crsL (now : Int) : List Int → List Mo → List Mo
  | [], p => p
  | n :: l, p => crsL now l (p.set n.toNat (cmdM (p.getD n.toNat default) now 1))
def askL (n : Int) (lns : List Ln) : List Ln := if n = 0 then lns else lns.set n.toNat { lns.getD n.toNat default with ask := askAt lns n + 1 }
def rtAt (c : Cf) (r : Int) : Rt := c.rts.getD r.toNat default
def rsAt (k : Kp) (r : Int) : Rs := k.rts.getD r.toNat default
def ask (l : List Sec) (s : St) : Option Nd := if posOk (rkind l s.sec) s.inn s.out = true ∧ ¬ posOut (rkind l s.sec) s.inn s.out = 0 then some ⟨s.sec, posOut (rkind l s.sec) s.inn s.out⟩ else none
def needsM (l : List Sec) (r : Rt) : List Nd := r.path.filterMap (ask l) ++ r.flank
def crsM (cr : List Int) (p : List St) : List Int := ((List.range cr.length).filter fun i => p.any fun s => s.sec == cr.getD i 0).map Int.ofNat
/-- a request of a state that fits, of a route that there is: its error -/
def reqE (c : Cf) (k : Kp) (r : Int) : Int :=
  if (rsAt k r).st ≠ 0 then 28 else if (locksM (rtAt c r)).any (aheadB c.sigs c.rts k.rts) = true then 23 else if (locksM (rtAt c r)).all (canB c.rts k.own (rtAt c r)) = false then 22
  else if lineM c.secs (rtAt c r).path ≠ 0 ∧ 4294967295 ≤ askAt k.lns (lineM c.secs (rtAt c r).path) then 5 else 0
def reqK (c : Cf) (k : Kp) (now r : Int) : Kp :=
  ⟨takeL (r + 1) (locksM (rtAt c r)) k.own, k.rts.set r.toNat ⟨1, 0, 0, 0⟩, ptsL now (needsM c.secs (rtAt c r)) k.pts, crsL now (crsM c.crs (rtAt c r).path) k.crs, askL (lineM c.secs (rtAt c r).path) k.lns, k.rss, true⟩
def endK (k : Kp) (now r : Int) : Kp := { k with rts := k.rts.set r.toNat ⟨4, now, (rsAt k r).nxt, 0⟩, dirty := true }
/-- what a call leads to, of a state that fits and a time: state and error -/
def reqM (c : Cf) (k : Kp) (now r : Int) : Kp × Int := if isSecB c.rts.length r = false then (k, 20) else if reqE c k r = 0 then (reqK c k now r, 0) else (k, reqE c k r)
def goM (c : Cf) (k : Kp) (now r : Int) (sts : List Int) : Kp × Int := if isSecB c.rts.length r = false then (k, 20) else if sts.contains (rsAt k r).st = false then (k, 28) else (endK k now r, 0)
def restM (c : Cf) (k : Kp) (r : Int) : Kp × Int := if isSecB c.rts.length r = false then (k, 20) else if (rsAt k r).st ≠ 3 then (k, 28) else ({ k with rts := k.rts.set r.toNat { rsAt k r with st := 1 } }, 0)
def resetM (c : Cf) (k : Kp) (now s : Int) : Kp × Int := if isSecB c.secs.length s = false then (k, 20) else if ownAt k.own s ≠ -1 then (k, 28) else ({ k with rss := k.rss.set s.toNat (now + 1) }, 0)
def throwM (c : Cf) (k : Kp) (now s pos : Int) : Kp × Int :=
  if (isSecB c.secs.length s && decide (kindOf c.secs s.toNat = 1)) = false then (k, 20) else if (decide (pos = 1) || decide (pos = 2)) = false then (k, 32) else if ownAt k.own s ≠ 0 then (k, 22)
  else ({ k with pts := k.pts.set s.toNat (cmdM (k.pts.getD s.toNat default) now pos) }, 0)
/-- ahead of each call -/
def gateM (c : Cf) (k : Kp) (ok : Bool) (x : Kp × Int) : Kp × Int := if fitsB c k = false then (k, 21) else if ok = false then (k, 32) else x
def newM (c : Cf) (now : Int) : Kp := ⟨c.secs.map fun _ => -1, c.rts.map fun _ => ⟨0, 0, 0, 0⟩, c.secs.map fun s => ⟨0, if s.kind = 1 then now else 0⟩, c.crs.map fun _ => ⟨1, now⟩, List.replicate 4 default, c.secs.map fun _ => 0, true⟩
end Go.Proofs.Ytnnacdkijeoeoaa.Lk

/- The document's image (package ballastref11): its plain data, and the memory in which it lies. -/
import Derived.Test.YtfmhfngilimhjaaImw
import Derived.Test.YtfmhfngilimhjaaJtake
namespace Go.Proofs.Ytfmhfngilimhjaa.Im
open Go.RowKit Li

/-- A controller of the document's image: its receiver's block, the row of numbers, what it said last, at which stamp. -/
structure Kr where
  rb : Nat
  v : Value
  r : R
  s : Te.Sta
  z : Int
def Kr.m (k : Kr) : Km := ⟨k.r, k.s.st, k.z⟩
/-- where it lies -/
structure Jp where
  b : Nat
  gR : Nat
  cR : Nat
  gS : Nat
  cS : Nat
  gZ : Nat
  cZ : Nat
def Jp.arr (p : Jp) (C : Te.Cf) : Array Value := #[.slice C.A1 C.l.length C.c1, .slice C.A2 C.n2 C.c2, .slice C.A3 C.sg.length C.c3, .slice C.A4 C.cr.length C.c4, .slice C.A5 C.n5 C.c5, .int .i64 C.t.age, .int .i64 C.t.brake, .int .i64 C.t.hold, .int .i64 C.t.budget, .slice (some ⟨p.gR, 0, none⟩) 4 p.cR, .slice (some ⟨p.gS, 0, none⟩) 4 p.cS, .slice (some ⟨p.gZ, 0, none⟩) 4 p.cZ]
/-- what a telegram may turn -/
def Jf (p : Jp) (ks : List Kr) (q : Nat) : Prop := q = p.gS ∨ q = p.gZ ∨ ∃ k ∈ ks, q = k.rb ∨ k.v.ownBlock = some q
structure Jm (w : World) (base n : Nat) (p : Jp) (C : Te.Cf) (ks : List Kr) : Prop where
  is : Is w p.b 98 (p.arr C)
  h4 : ks.length = 4
  rr : ∃ cs, Is w p.gR 99 cs ∧ ∀ j (h : j < ks.length), cs[j]? = some (.pointer (some ⟨ks[j].rb, 0, none⟩))
  ss : ∃ cs, Is w p.gS 65 cs ∧ 16 ≤ cs.size ∧ ∀ j (h : j < ks.length) i, i < 4 → cs[j * 4 + i]? = ks[j].s.cells[i]?
  zz : ∃ cs, Is w p.gZ 3 cs ∧ 4 ≤ cs.size ∧ ∀ j (h : j < ks.length), cs[j]? = some (.int .i64 ks[j].z)
  mx : ∀ k ∈ ks, Mx w base k.rb n k.v k.r
  rb : ∀ k ∈ ks, base ≤ k.rb
  sok : ∀ k ∈ ks, k.s.Ok w
  far : ∀ k ∈ ks, k.s.Off (Jf p ks)
  new : ∀ k ∈ ks, k.s.Off fun q => q < base
  nd : ∀ i j (hi : i < ks.length) (hj : j < ks.length), i ≠ j → ks[i].rb ≠ ks[j].rb ∧ ∀ q, ks[i].v.ownBlock = some q → ks[j].v.ownBlock ≠ some q
  nz : ∀ k ∈ ks, k.v.ownBlock ≠ some p.gZ
  lo : base ≤ p.b ∧ base ≤ p.gR ∧ base ≤ p.gS ∧ base ≤ p.gZ

theorem Te_off_or {x : Te.Sta} {S : Nat → Prop} (h : x.Off S) {S' : Nat → Prop} (hs : ∀ q, S' q → S q) : x.Off S' := h.mono hs
/-- nothing of it lies in these blocks -/
theorem Jm.fr {w w1 : World} {base n : Nat} {p : Jp} {C : Te.Cf} {ks : List Kr} {S : Nat → Prop} (h : Jm w base n p C ks) (f : Fr S w w1) (hs : ∀ q, S q → q < base) : Jm w1 base n p C ks := by
  obtain ⟨a1, a2, a3⟩ := h.lo
  have hn : ∀ q, base ≤ q → ¬ S q := fun q hq hS => by have := hs q hS; omega
  obtain ⟨c1, i1, l1⟩ := h.rr
  obtain ⟨c2, i2, l2⟩ := h.ss
  obtain ⟨c3, i3, l3⟩ := h.zz
  refine ⟨h.is.fr f (hn _ a1), h.h4, ⟨c1, i1.fr f (hn _ a2), l1⟩, ⟨c2, i2.fr f (hn _ a3.1), l2⟩, ⟨c3, i3.fr f (hn _ a3.2), l3⟩, fun k hk => ?_, h.rb, fun k hk => ?_, h.far, h.new, h.nd, h.nz, h.lo⟩
  · exact (h.mx k hk).fr f (hn _ (h.rb k hk)) fun q hq => hn _ ((h.mx k hk).lt.2 q hq).1
  · exact (h.sok k hk).off f ((h.new k hk).mono hs)
theorem Jm.fr0 {w w1 : World} {base n : Nat} {p : Jp} {C : Te.Cf} {ks : List Kr} (h : Jm w base n p C ks) (f : Fr (fun _ => False) w w1) : Jm w1 base n p C ks := h.fr f fun _ h => h.elim
theorem Jf.lo {w : World} {base n : Nat} {p : Jp} {C : Te.Cf} {ks : List Kr} (h : Jm w base n p C ks) {q : Nat} (hq : Jf p ks q) : base ≤ q ∧ q < w.heap.size := by
  obtain ⟨a1, a2, a3, a4⟩ := h.lo
  obtain ⟨c2, i2, l2⟩ := h.ss
  obtain ⟨c3, i3, l3⟩ := h.zz
  rcases hq with rfl | rfl | ⟨k, hk, rfl | e⟩
  · exact ⟨a3, i2.lt⟩
  · exact ⟨a4, i3.lt⟩
  · exact ⟨h.rb k hk, (h.mx k hk).lt.1⟩
  · exact (h.mx k hk).lt.2 q e
/-- the twelve cells -/
theorem twelve {w : World} {b : Nat} {t : TypeId} {a0 a1 a2 a3 a4 a5 a6 a7 a8 a9 a10 a11 : Value} (h : Is w b t #[a0, a1, a2, a3, a4, a5, a6, a7, a8, a9, a10, a11]) : w.cell? ⟨b, 0, none⟩ = some a0 ∧ w.cell? ⟨b, 1, none⟩ = some a1 ∧ w.cell? ⟨b, 2, none⟩ = some a2 ∧ w.cell? ⟨b, 3, none⟩ = some a3 ∧ w.cell? ⟨b, 4, none⟩ = some a4 ∧ w.cell? ⟨b, 5, none⟩ = some a5 ∧ w.cell? ⟨b, 6, none⟩ = some a6 ∧ w.cell? ⟨b, 7, none⟩ = some a7 ∧ w.cell? ⟨b, 8, none⟩ = some a8 ∧ w.cell? ⟨b, 9, none⟩ = some a9 ∧ w.cell? ⟨b, 10, none⟩ = some a10 ∧ w.cell? ⟨b, 11, none⟩ = some a11 :=
  ⟨(h.cell 0).trans rfl, (h.cell 1).trans rfl, (h.cell 2).trans rfl, (h.cell 3).trans rfl, (h.cell 4).trans rfl, (h.cell 5).trans rfl, (h.cell 6).trans rfl, (h.cell 7).trans rfl, (h.cell 8).trans rfl, (h.cell 9).trans rfl, (h.cell 10).trans rfl, (h.cell 11).trans rfl⟩
section
variable {w : World} {base n : Nat} {p : Jp} {C : Te.Cf} {ks : List Kr}
theorem Jm.rcell (h : Jm w base n p C ks) {j : Nat} (hj : j < ks.length) : w.cell? ⟨p.gR, j, none⟩ = some (.pointer (some ⟨ks[j].rb, 0, none⟩)) := by
  obtain ⟨c, i, l⟩ := h.rr
  exact (i.cell j).trans (l j hj)
theorem Jm.zcell (h : Jm w base n p C ks) {j : Nat} (hj : j < ks.length) : w.cell? ⟨p.gZ, j, none⟩ = some (.int .i64 ks[j].z) := by
  obtain ⟨c, i, _, l⟩ := h.zz
  exact (i.cell j).trans (l j hj)
theorem Jm.scell (h : Jm w base n p C ks) {j : Nat} (hj : j < ks.length) : w.cell? ⟨p.gS, j * 4, none⟩ = some (.slice ks[j].s.occ.A ks[j].s.occ.l.length ks[j].s.occ.c) ∧ w.cell? ⟨p.gS, j * 4 + 1, none⟩ = some (.slice ks[j].s.pos.A ks[j].s.pos.l.length ks[j].s.pos.c) ∧ w.cell? ⟨p.gS, j * 4 + 2, none⟩ = some (.slice ks[j].s.shut.A ks[j].s.shut.l.length ks[j].s.shut.c) ∧ w.cell? ⟨p.gS, j * 4 + 3, none⟩ = some (.slice ks[j].s.lamp.A ks[j].s.lamp.l.length ks[j].s.lamp.c) := by
  obtain ⟨c, i, _, l⟩ := h.ss
  exact ⟨(i.cell _).trans (l j hj 0 (by decide)), (i.cell _).trans (l j hj 1 (by decide)), (i.cell _).trans (l j hj 2 (by decide)), (i.cell _).trans (l j hj 3 (by decide))⟩
end
end Go.Proofs.Ytfmhfngilimhjaa.Im

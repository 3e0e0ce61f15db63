import Derived.Test.YtdoljggaoidljaaRows
import Derived.ProofKit
import Derived.OpenShut
import Derived.Carry
import Derived.Below
import Derived.SizedLaws
import Derived.Test.YtdoljggaoidljaaHeap
import Derived.SliceStrings
import Derived.Test.YtdoljggaoidljaaTop
import Derived.Test.YtdoljggaoidljaaArm
import Derived.Deep.LoopGhost
import Derived.Deep.CutRange
import Derived.Laws.BitsAllLaws
/- How a law's statement follows from its walk: a call that answers true, and that leaves all that was there as it was, meets the law's specification, whatever its arguments are. -/
namespace Go.Proofs.Ytdoljggaoidljaa
open Go.ChangeShapes Go.WideShapes Go.ChangeAt Go.RowKit

theorem Try.laidOut : laidOutB Try.prog = true := by kernel_rfl
theorem Try.own : ownKnob Try.prog.godebug = none := by kernel_rfl

theorem args_stay {H : Type} {enc : TypeId × Value → H} {P : Program} (hl : laidOutB P = true) {W W' : World} (hb : Below W.heap.size W W') :
    ∀ {ts : List TypeId} {vs : List Value} {ds : List (DataW H)} {ps : List MemPlace}, (∀ t ∈ ts, P.readableRec t = true ∧ t < P.types.size) →
      DataW.TrodAll enc P W 0 (fun _ => true) true ts vs ds ps → (∀ x ∈ ps, x.block < W.heap.size) → DataW.TrodAll enc P W' 0 (fun b => decide (b < W.heap.size)) true ts vs ds ps
  | [], _, _, _, _, h, _ => by
    obtain ⟨rfl, rfl, rfl⟩ := trodAll_nil h
    exact trodAll_mk0
  | t :: ts, _, _, _, hr, h, hlt => by
    obtain ⟨v, vs, d, ds, p, ps, rfl, rfl, rfl, h0, r0⟩ := trodAll_cons h
    exact trodAll_cons_mk (Below.trod hl (hr t (by simp)).1 (hr t (by simp)).2 h0 hb (fun x hx => hlt x (by simp [hx])))
      (args_stay hl hb (fun u hu => hr u (by simp [hu])) r0 (fun x hx => hlt x (by simp [hx])))

/-- The law's specification is met. -/
theorem law_post {H : Type} {enc : TypeId × Value → H} {f : Func} {s : ChangeSpec} {W W' : World} {args : Array Value} {ds gs : List (DataW H)} {before : List MemPlace}
    (hW : DataW.Whole enc Try.prog f.params.toList s.vars false W args.toList ds gs before) (hv : s.vars = []) (hres : f.resultTypes = #[4])
    (hts : ∀ t ∈ f.params.toList, Try.prog.readableRec t = true ∧ t < Try.prog.types.size)
    (hfn : (s.fn H ds).results = [.lit (.bool true)]) (hargs : (s.fn H ds).args = ds) (hvars : (s.fn H ds).vars = []) (hb : Below W.heap.size W W') :
    ∃ v, Ending.returned (.bool true) = .returned v ∧ s.post enc Try.prog f false true false false W args v W' := by
  have hlt : ∀ p ∈ before, p.block < W.heap.size := fun p hp => hW.lt p hp
  have hW' := hW
  obtain ⟨p, q, hA, hV, rfl, hfz, hnd⟩ := hW
  rw [hv] at hV
  obtain ⟨rfl, rfl⟩ := trodVars_none hV
  refine ⟨_, rfl, ds, [], _, [], p, [], hW', ?_, ?_, ?_, hb.frame _, fun h => by cases h⟩
  · rw [List.append_nil, hfn, hres]
    exact trodAll_cons_mk (shut_bool Try.underlying4 _) trodAll_mk0
  · rw [List.append_nil, hargs]
    exact args_stay Try.laidOut hb hts hA (fun x hx => hlt x (by simp [hx]))
  · rw [List.append_nil, hv, hvars]
    rfl
end Go.Proofs.Ytdoljggaoidljaa
/- How arguments that are slices of texts are read: their cells, and what they say as data. -/
namespace Go.Proofs.Ytdoljggaoidljaa
open Go.ChangeShapes Go.WideShapes Go.ChangeAt Go.RowKit

theorem bytes_string : Try.prog.bytesOf 9 = 16 := by kernel_rfl
theorem Try.cellString : Try.prog.cellsOf 9 = 1 := by kernel_rfl

theorem rd_of {w : World} {a : Addr} {xs : List Value} (h : ∀ i u, xs[i]? = some u → w.cell? (a.add i) = some u) : Rd w (some a) xs := fun h0 => by
  have h00 := h 0 xs[0] (List.getElem?_eq_getElem h0)
  have e0 : a.add 0 = a := by simp [Addr.add]
  rw [e0] at h00
  have hs := World.cell?_spot h00
  obtain ⟨g, o, spot⟩ := a
  simp only at hs
  subst hs
  exact ⟨g, o, rfl, World.block_lt_of_cell? w ⟨g, o, none⟩ h00, fun j u hu => by rw [← add_plain]; exact h j u hu⟩

section
variable {H : Type} {enc : TypeId × Value → H} {w : World} {base : Nat}
set_option maxRecDepth 100000 in
theorem open_texts {v : Value} {d : DataW H} {ps : List MemPlace} (hv : Value.okWide Try.prog w .any base 22 v) (h : DataW.Trod enc Try.prog w 0 (fun _ => true) true 22 v d ps) :
    ∃ (A : Option Addr) (c : Nat) (l : List ByteArray), v = .slice A l.length c ∧ Rd w A (l.map Value.string) ∧ ((d = .nil ∧ l = []) ∨ ∃ rest, d = .slice (strs l) rest) ∧ l.length ≤ c := by
  obtain ⟨a0, len0, cap0, rfl⟩ := okWide_slice Try.underlying22 hv
  obtain ⟨fuel, hf⟩ := h
  rcases open_strings Try.underlying22 Try.underlying9 Try.cellString hf with ⟨hcs, hx⟩ | ⟨a, len, cap, zs, hcs, _, hl, hm, hz, hx, hcell, _⟩
  · simp only [Value.cells, List.cons.injEq, Value.slice.injEq, and_true] at hcs
    obtain ⟨rfl, rfl, rfl⟩ := hcs
    simp only [Prod.mk.injEq] at hx
    exact ⟨none, 0, [], rfl, fun h => by simp at h, .inl ⟨hx.1, rfl⟩, Nat.le_refl _⟩
  · simp only [Value.cells, List.cons.injEq, Value.slice.injEq, and_true] at hcs
    obtain ⟨rfl, rfl, rfl⟩ := hcs
    have hzc : zs.length = cap0 := by simpa using hz
    simp only [Prod.mk.injEq] at hx
    have hlen : (zs.take len0).length = len0 := by rw [List.length_take]; omega
    refine ⟨some a, cap0, zs.take len0, by rw [hlen], rd_of fun i u hu => ?_, .inr ⟨_, hx.1⟩, by rw [hlen]; omega⟩
    have hi : i < len0 := by
      have := (List.getElem?_eq_some_iff.1 hu).1
      rw [List.length_map, hlen] at this
      exact this
    rw [hcell i (by omega)]
    rw [List.getElem?_map, List.getElem?_take, if_pos hi, List.getElem?_eq_getElem (by omega)] at hu
    simp only [Option.map_some, Option.some.injEq] at hu
    rw [← hu, List.getD_eq_getElem?_getD, List.getElem?_eq_getElem (by omega)]
    rfl
end
end Go.Proofs.Ytdoljggaoidljaa
/- The walk of JournalOpens. -/
namespace Go.Proofs.Ytdoljggaoidljaa
open Go.RowKit

namespace Oj
theorem umod (a : Int) (m : Nat) (h0 : 0 < m) (h : m ≤ 4611686018427387904) : ∃ n : Nat, wrap64 ((IntKind.u64.wrap a).tmod (m : Int)) = n ∧ n < m := by
  have hw : 0 ≤ IntKind.u64.wrap a := by rw [IntKind.wrap_u64]; omega
  rw [Int.tmod_eq_emod_of_nonneg hw]
  have h1 := Int.emod_nonneg (IntKind.u64.wrap a) (b := (m : Int)) (by omega)
  have h2 := Int.emod_lt_of_pos (IntKind.u64.wrap a) (b := (m : Int)) (by omega)
  generalize IntKind.u64.wrap a % (m : Int) = x at *
  rw [IntWalk.wrap64_in _ ⟨by omega, by omega⟩]
  exact ⟨x.toNat, by omega, by omega⟩
end Oj
/-- Arm of one cut that was just laid -/
theorem arm_one {w : World} {b : Nat} {r : Option Nat} {m : Mm} (h : Mem w b r m) (a p : Int) (ha : (ki a).wf = true) (hp : (ki p).wf = true) :
    Calls Try.prog 13 #[.pointer (some ⟨b, 0, none⟩), .slice (some ⟨w.heap.size, 0, none⟩) 1 1] (w.alloc (.cells #[.int .i64 a, .int .i64 p] 55)) fun e w' => e = .returned (.tuple #[]) ∧ (∃ C, Mem w' b (some (w.heap.size + 1)) (m.arm C)) ∧ Fr (fun k => k = b) w w' := by
  have hb := h.blt
  have hx : Rd (w.alloc (.cells #[.int .i64 a, .int .i64 p] 55)) (some ⟨w.heap.size, 0, none⟩) (cutCells [(a, p)]) := fun _ => ⟨w.heap.size, 0, rfl, by simp, fun j u hu => by
    have hi := (Is.new w 55 #[.int .i64 a, .int .i64 p]).cell (0 + j)
    rw [Nat.zero_add] at hi ⊢
    rw [hi, ← Array.getElem?_toList]
    exact hu⟩
  have K := arm_any (c := 1) (h.none ((Fr.refl _ w).alloc (.cells #[.int .i64 a, .int .i64 p] 55))) (l := [(a, p)]) (A := some ⟨w.heap.size, 0, none⟩) hx (by intro e; have e2 : w.heap.size = b := (by injection e); omega) (by simp) (fun x hx => by simp at hx; subst hx; exact ⟨ha, hp⟩)
  refine K.mono fun e w' ⟨he, hm, hf⟩ => ⟨he, ⟨fun i => cutAt [(a, p)] i, ?_⟩, ((Fr.refl (fun k => k = b) w).alloc _).trans hf fun _ _ k => k⟩
  have e1 : (w.alloc (.cells #[.int .i64 a, .int .i64 p] 55)).heap.size = w.heap.size + 1 := by simp
  rw [e1] at hm
  exact hm
/-- a journal over a memory in which cuts are armed that no act has met yet -/
def Armed (w : World) (jb mb : Nat) (r : Option Nat) (m : Mm) (all : List Jo.Rc) : Prop := ∃ j c L, JM w jb mb r j ∧ Con j all c L ∧ j.m = m
/-- a memory that holds records, and in which cuts may be armed -/
def Hu (m : Mm) (n : Nat) (all : List Jo.Rc) : Prop := ∃ m0, Holds m0 n all ∧ (m = m0 ∨ ∃ C, m = m0.arm C)
theorem Hu.parts {m : Mm} {n : Nat} {all : List Jo.Rc} (h : Hu m n all) : (∃ c L, Jo.St m.pg all c L) ∧ m.down = false ∧ Holds (m.arm fun i => cutAt [] i) n all ∧ all.length ≤ n ∧ ∀ r ∈ all, r.ok := by
  obtain ⟨m0, hs, rfl | ⟨C, rfl⟩⟩ := h
  · exact ⟨hs.st, hs.up, ⟨hs.st, hs.up, fun _ => rfl, hs.acts, hs.worn, hs.len, hs.oks⟩, hs.len, hs.oks⟩
  · exact ⟨hs.st, hs.up, ⟨hs.st, hs.up, fun _ => rfl, hs.acts, hs.worn, hs.len, hs.oks⟩, hs.len, hs.oks⟩
theorem Holds.mono {m : Mm} {n n' : Nat} {all : List Jo.Rc} (h : Holds m n all) (hn : n ≤ n') : Holds m n' all := ⟨h.st, h.up, h.cut, by have := h.acts; omega, fun q => by have := h.worn q; omega, by have := h.len; omega, h.oks⟩
theorem open_armed {w : World} {b : Nat} {r : Option Nat} {m : Mm} (h : Mem w b r m) {n : Nat} {all : List Jo.Rc} (hu : Hu m n all) (hn : n ≤ 100000) :
    Calls Try.prog 8 #[.pointer (some ⟨b, 0, none⟩)] w fun e w' => ∃ (jb len : Nat) (A : Option Addr) (cp : Nat), e = .returned (.tuple #[.pointer (some ⟨jb, 0, none⟩), .slice A len cp, .int .i64 0]) ∧ Armed w' jb b r m all ∧ w.heap.size ≤ jb ∧ (len = all.length ∨ 16 ≤ len) ∧ Fr (fun _ => False) w w' := by
  obtain ⟨⟨c, L, hst⟩, hup, _, hlen, hoks⟩ := hu.parts
  refine (open_any h hup hst (by omega)).mono ?_
  rintro e w' ⟨jb, k, A, cp, rfl, hj, h1, h2, h3, h4, f⟩
  have hb := h.blt
  refine ⟨jb, _, A, cp, rfl, ⟨⟨m, Jo.lastSafe none all, c - 1, firstOf c L, all.length + 1, stopOf c L⟩, c, L, ⟨h.none f, hj.is, ?_⟩, ⟨hst, rfl, rfl, rfl, rfl, rfl, hup, hoks⟩, rfl⟩, h1, ?_, f⟩
  · rintro (e | e)
    · omega
    · have := h.lt jb e
      omega
  · rw [List.length_drop]
    omega
/-- .. Arm of none behind it -/
theorem disarm {w : World} {jb mb : Nat} {r : Option Nat} {m : Mm} {n : Nat} {all : List Jo.Rc} (h : Armed w jb mb r m all) (hu : Hu m n all) :
    Calls Try.prog 13 #[.pointer (some ⟨mb, 0, none⟩), .slice none 0 0] w fun e w' => e = .returned (.tuple #[]) ∧ Live w' jb mb (some w.heap.size) n all ∧ Fr (fun k => k = mb) w w' := by
  obtain ⟨j, c, L, a, b, hm⟩ := h
  have hjb : jb ≠ mb := fun e => a.off (.inl e)
  have hjl : jb < w.heap.size := a.jr.lt
  refine (arm_any (c := 0) a.mem (l := []) (A := none) (fun h0 => by simp [cutCells] at h0) (by simp [blk]) (by decide) (by simp)).mono ?_
  rintro e w' ⟨rfl, h1, f⟩
  refine ⟨rfl, ⟨{ j with m := j.m.arm fun i => cutAt [] i }, c, L, ⟨h1, a.jr.fr f hjb, ?_⟩, ⟨b.st, b.nth, b.first, b.next, b.stop, b.o, b.up, b.oks⟩, ?_⟩, f⟩
  · rintro (e | e)
    · exact hjb e
    · have : w.heap.size = jb := by injection e
      omega
  · rw [hm]
    exact hu.parts.2.2.1
theorem next_armed {w : World} {jb mb : Nat} {r : Option Nat} {n : Nat} {all : List Jo.Rc} (h : Live w jb mb r n all) : Calls Try.prog 9 #[.pointer (some ⟨jb, 0, none⟩)] w fun e w' => e = .returned (.int .i64 ((all.length : Int) + 1)) ∧ w' = w := by
  refine (next_live h).mono ?_
  rintro e w' ⟨rfl, rfl⟩
  exact ⟨by simp, rfl⟩
/-- a memory that holds so many records -/
def Hst (w : World) (b n : Nat) (cnt : Nat) : Prop := ∃ m all, Mem w b none m ∧ Holds m n all ∧ all.length = cnt
theorem again_hst {w : World} {jb mb n : Nat} {r : Option Nat} {all : List Jo.Rc} (h : Live w jb mb r n all) :
    Calls Try.prog 11 #[.pointer (some ⟨mb, 0, none⟩)] w fun e w' => e = .returned (.pointer (some ⟨w.heap.size, 0, none⟩)) ∧ Hst w' w.heap.size n all.length ∧ Fr (fun _ => False) w w' := by
  obtain ⟨m, M, S⟩ := h.mem
  refine (again_any M).mono ?_
  rintro e w' ⟨rfl, h1, h2⟩
  exact ⟨rfl, ⟨_, all, h1, S.again, rfl⟩, h2⟩
theorem again_hst2 {w : World} {mb n cnt : Nat} (h : Hst w mb n cnt) :
    Calls Try.prog 11 #[.pointer (some ⟨mb, 0, none⟩)] w fun e w' => e = .returned (.pointer (some ⟨w.heap.size, 0, none⟩)) ∧ Hst w' w.heap.size n cnt ∧ Fr (fun _ => False) w w' := by
  obtain ⟨m, all, M, S, hc⟩ := h
  refine (again_any M).mono ?_
  rintro e w' ⟨rfl, h1, h2⟩
  exact ⟨rfl, ⟨_, all, h1, S.again, hc⟩, h2⟩

theorem Hst.mono {w : World} {b n n' cnt : Nat} (h : Hst w b n cnt) (hn : n ≤ n') : Hst w b n' cnt := by
  obtain ⟨m, all, M, S, hc⟩ := h
  exact ⟨m, all, M, S.mono hn, hc⟩

set_option maxRecDepth 100000 in
set_option maxHeartbeats 4000000 in
theorem opens_walk (w : World) (A : Option Addr) (c : Nat) (l : List ByteArray) (times part : Int) (hl : Rd w A (l.map Value.string)) (hlen : l.length ≤ 140737488355328) (hp : (ki part).wf = true) :
    Calls Try.prog 5 #[.slice A l.length c, .int .i64 times, .int .i64 part] w fun e w' => e = .returned (.bool true) ∧ Below w.heap.size w w' := by
  go_enter Try.func5, Try.ntmps5
  go_wp2_with fail
  refine (lives_any w).mono ?_
  rintro e w1 ⟨rfl, F1⟩
  have G1 := Lib.hid F1
  clear F1
  go_wp2_with fail
  refine (new_any _).mono ?_
  rintro e w2 ⟨rfl, M0, F0⟩
  obtain ⟨b, hb⟩ : ∃ b, b = w1.heap.size := ⟨_, rfl⟩
  have hb0 : w.heap.size ≤ b := by have := G1.out.size; omega
  rw [← hb] at M0 ⊢
  have G2 := Lib.hid (fr_quiet G1.out F0)
  have T2 : Hid (Hst w2 b 0 0) := Lib.hid ⟨_, [], M0, holds_new, rfl⟩
  obtain ⟨nn, hnn, hn80⟩ := Oj.umod times 80 (by decide) (by decide)
  clear F0 hb M0 G1
  go_wp2_with fail
  go_loopw [7, 8, 9] (fun vm vn i wr => ∃ k b cnt : Nat, k ≤ nn ∧ i = .int .i64 (k : Int) ∧ vn = .int .i64 (cnt : Int) ∧ cnt ≤ k ∧ vm = .pointer (some ⟨b, 0, none⟩) ∧ w.heap.size ≤ b ∧ Hst wr b k cnt ∧ Fr (fun k => w.heap.size ≤ k) w wr) (fun _ _ i _ => nn - (intOf i).toNat)
  case atStart => exact ⟨0, b, 0, Nat.zero_le _, rfl, rfl, Nat.le_refl _, rfl, hb0, T2.out, G2.out⟩
  case round =>
    clear T2 G2 hb0
    obtain ⟨k, b, cnt, hk, rfl, rfl, hcnt, rfl, hb0, hH, hF⟩ := hrel
    have hnn' : wrap64 ((IntKind.u64.wrap times).tmod 80) = (nn : Int) := hnn
    by_cases hlt : k < nn
    · have d1 : decide ((k : Int) < (nn : Int)) = true := decide_eq_true (by omega)
      obtain ⟨m, all, M, S, hc⟩ := hH
      by_cases b3 : k % 3 = 1
      · have K1 := arm_one M ((k / 3 % 4 : Nat) : Int) part (by simp [Lit.wf, IntKind.min, IntKind.max, IntKind.signed, IntKind.bits]; omega) hp
        have HF := Lib.hid hF
        have HS := Lib.hid S
        clear hF hnn M S
        go_wp2_with fail
        refine K1.mono ?_
        clear K1
        rintro e w4 ⟨rfl, ⟨C, M4⟩, F4⟩
        have HF4 := Lib.hid (HF.out.trans F4 fun k _ hk => by omega)
        have MM := Lib.hid M4
        have HU : Hid (Hu (m.arm C) k all) := Lib.hid ⟨m, HS.out, .inr ⟨C, rfl⟩⟩
        clear HF HS M4 F4
        have HF := HF4
        clear HF4
        go_wp2_with fail
        refine (open_armed MM.out HU.out (by omega)).mono ?_
        rintro e w5 ⟨j, len, A5, cp5, rfl, R5, hj5, hl5, F5⟩
        have hj0 : w.heap.size ≤ j := by have := HF.out.size; omega
        have G5 := Lib.hid (fr_quiet HF.out F5)
        have K5 := disarm R5 HU.out
        have hjb : j < w5.heap.size ∧ b < w5.heap.size := by
          obtain ⟨jj, cc, LL, aa, _, _⟩ := R5
          exact ⟨aa.jr.lt, aa.mem.blt⟩
        obtain ⟨r5, hr5⟩ : ∃ r5, r5 = w5.heap.size := ⟨_, rfl⟩
        have hr50 : w.heap.size ≤ r5 := by have := G5.out.size; omega
        rw [← hr5] at K5 hjb
        have hmn : ∃ mn : Nat, min (cnt : Int) 16 = (mn : Int) ∧ mn ≤ len := ⟨min cnt 16, by omega, by omega⟩
        obtain ⟨mn, hmin, hmn2⟩ := hmn
        have d5 : decide (len < mn) = false := decide_eq_false (by omega)
        have HC := Lib.hid hc
        clear F5 HF MM HU R5 hj5 hl5 hmn2 hr5
        go_wp2_with fail
        refine K5.mono ?_
        clear K5
        rintro e w6 ⟨rfl, L6, F6⟩
        have G6 := Lib.hid (G5.out.trans F6 fun k _ hk => by omega)
        have H6 := Lib.hid L6
        have KN := next_armed L6
        rw [HC.out] at KN
        clear F6 L6 G5
        go_wp2_with fail
        refine KN.mono ?_
        clear KN
        rintro e w7 ⟨rfl, rfl⟩
        by_cases hkl : k < l.length
        · obtain ⟨g, o, rfl, hg, hcc⟩ := hl (by rw [List.length_map]; omega)
          have c1 : w7.cell? ⟨g, o + k, none⟩ = some (.string l[k]) := (G6.out.cell (p := ⟨g, o + k, none⟩) hg (by simp; omega)).trans (hcc k (.string l[k]) (by rw [List.getElem?_map, List.getElem?_eq_getElem hkl]; rfl))
          have e1 : decide (k < l.length) = true := decide_eq_true (by omega)
          clear hcc hl
          generalize l[k] = x at c1
          by_cases hx : x.size ≤ 1000
          · have e2 : decide ((x.size : Int) ≤ 1000) = true := decide_eq_true (by omega)
            have e3 : decide (x.size ≤ 1000) = true := decide_eq_true (by omega)
            have KA := append_live H6.out (by omega) 2 x (.inr rfl) hx
            go_wp2_with fail
            refine KA.mono ?_
            clear KA
            rintro e w8 ⟨rfl, L8, F8⟩
            have G8 := Lib.hid (fr_jf G6.out F8 hb0 hj0 fun k hk => by cases hk; exact hr50)
            have K8 := again_hst L8
            rw [List.length_append, HC.out] at K8
            obtain ⟨u, hu⟩ : ∃ u, u = w8.heap.size := ⟨_, rfl⟩
            have hu0 : w.heap.size ≤ u := by have := G8.out.size; omega
            rw [← hu] at K8
            clear F8 L8 G6 H6 c1 hu
            go_wp2_with fail
            refine K8.mono ?_
            clear K8
            rintro e w9 ⟨rfl, h9, F9⟩
            have G9 := Lib.hid (fr_quiet G8.out F9)
            have H9 := Lib.hid h9
            clear F9 h9 G8
            go_wp2_with fail
            refine ⟨⟨k + 1, u, cnt + 1, by omega, rfl, by go_num, by omega, rfl, hu0, H9.out, G9.out⟩, by simp [intOf]; omega⟩
          · have e2 : decide ((x.size : Int) ≤ 1000) = false := decide_eq_false (by omega)
            have e3 : decide (x.size ≤ 1000) = false := decide_eq_false (by omega)
            have K8 := again_hst H6.out
            rw [HC.out] at K8
            obtain ⟨u, hu⟩ : ∃ u, u = w7.heap.size := ⟨_, rfl⟩
            have hu0 : w.heap.size ≤ u := by have := G6.out.size; omega
            rw [← hu] at K8
            clear H6 hu
            go_wp2_with fail
            refine K8.mono ?_
            clear K8
            rintro e w9 ⟨rfl, h9, F9⟩
            have G9 := Lib.hid (fr_quiet G6.out F9)
            have H9 := Lib.hid (h9.mono (Nat.le_succ _))
            clear F9 h9 G6
            go_wp2_with fail
            refine ⟨⟨k + 1, u, cnt, by omega, rfl, rfl, by omega, rfl, hu0, H9.out, G9.out⟩, by simp [intOf]; omega⟩
        · have e1 : decide (k < l.length) = false := decide_eq_false (by omega)
          have K8 := again_hst H6.out
          rw [HC.out] at K8
          obtain ⟨u, hu⟩ : ∃ u, u = w7.heap.size := ⟨_, rfl⟩
          have hu0 : w.heap.size ≤ u := by have := G6.out.size; omega
          rw [← hu] at K8
          clear H6 hu
          go_wp2_with fail
          refine K8.mono ?_
          clear K8
          rintro e w9 ⟨rfl, h9, F9⟩
          have G9 := Lib.hid (fr_quiet G6.out F9)
          have H9 := Lib.hid (h9.mono (Nat.le_succ _))
          clear F9 h9 G6
          go_wp2_with fail
          refine ⟨⟨k + 1, u, cnt, by omega, rfl, rfl, by omega, rfl, hu0, H9.out, G9.out⟩, by simp [intOf]; omega⟩
      · have HF := Lib.hid hF
        have MM := Lib.hid M
        have HU : Hid (Hu m k all) := Lib.hid ⟨m, S, .inl rfl⟩
        clear hF hnn M S
        go_wp2_with fail
        refine (open_armed MM.out HU.out (by omega)).mono ?_
        rintro e w5 ⟨j, len, A5, cp5, rfl, R5, hj5, hl5, F5⟩
        have hj0 : w.heap.size ≤ j := by have := HF.out.size; omega
        have G5 := Lib.hid (fr_quiet HF.out F5)
        have K5 := disarm R5 HU.out
        have hjb : j < w5.heap.size ∧ b < w5.heap.size := by
          obtain ⟨jj, cc, LL, aa, _, _⟩ := R5
          exact ⟨aa.jr.lt, aa.mem.blt⟩
        obtain ⟨r5, hr5⟩ : ∃ r5, r5 = w5.heap.size := ⟨_, rfl⟩
        have hr50 : w.heap.size ≤ r5 := by have := G5.out.size; omega
        rw [← hr5] at K5 hjb
        have hmn : ∃ mn : Nat, min (cnt : Int) 16 = (mn : Int) ∧ mn ≤ len := ⟨min cnt 16, by omega, by omega⟩
        obtain ⟨mn, hmin, hmn2⟩ := hmn
        have d5 : decide (len < mn) = false := decide_eq_false (by omega)
        have HC := Lib.hid hc
        clear F5 HF MM HU R5 hj5 hl5 hmn2 hr5
        go_wp2_with fail
        refine K5.mono ?_
        clear K5
        rintro e w6 ⟨rfl, L6, F6⟩
        have G6 := Lib.hid (G5.out.trans F6 fun k _ hk => by omega)
        have H6 := Lib.hid L6
        have KN := next_armed L6
        rw [HC.out] at KN
        clear F6 L6 G5
        go_wp2_with fail
        refine KN.mono ?_
        clear KN
        rintro e w7 ⟨rfl, rfl⟩
        by_cases hkl : k < l.length
        · obtain ⟨g, o, rfl, hg, hcc⟩ := hl (by rw [List.length_map]; omega)
          have c1 : w7.cell? ⟨g, o + k, none⟩ = some (.string l[k]) := (G6.out.cell (p := ⟨g, o + k, none⟩) hg (by simp; omega)).trans (hcc k (.string l[k]) (by rw [List.getElem?_map, List.getElem?_eq_getElem hkl]; rfl))
          have e1 : decide (k < l.length) = true := decide_eq_true (by omega)
          clear hcc hl
          generalize l[k] = x at c1
          by_cases hx : x.size ≤ 1000
          · have e2 : decide ((x.size : Int) ≤ 1000) = true := decide_eq_true (by omega)
            have e3 : decide (x.size ≤ 1000) = true := decide_eq_true (by omega)
            have KA := append_live H6.out (by omega) 2 x (.inr rfl) hx
            go_wp2_with fail
            refine KA.mono ?_
            clear KA
            rintro e w8 ⟨rfl, L8, F8⟩
            have G8 := Lib.hid (fr_jf G6.out F8 hb0 hj0 fun k hk => by cases hk; exact hr50)
            have K8 := again_hst L8
            rw [List.length_append, HC.out] at K8
            obtain ⟨u, hu⟩ : ∃ u, u = w8.heap.size := ⟨_, rfl⟩
            have hu0 : w.heap.size ≤ u := by have := G8.out.size; omega
            rw [← hu] at K8
            clear F8 L8 G6 H6 c1 hu
            go_wp2_with fail
            refine K8.mono ?_
            clear K8
            rintro e w9 ⟨rfl, h9, F9⟩
            have G9 := Lib.hid (fr_quiet G8.out F9)
            have H9 := Lib.hid h9
            clear F9 h9 G8
            go_wp2_with fail
            refine ⟨⟨k + 1, u, cnt + 1, by omega, rfl, by go_num, by omega, rfl, hu0, H9.out, G9.out⟩, by simp [intOf]; omega⟩
          · have e2 : decide ((x.size : Int) ≤ 1000) = false := decide_eq_false (by omega)
            have e3 : decide (x.size ≤ 1000) = false := decide_eq_false (by omega)
            have K8 := again_hst H6.out
            rw [HC.out] at K8
            obtain ⟨u, hu⟩ : ∃ u, u = w7.heap.size := ⟨_, rfl⟩
            have hu0 : w.heap.size ≤ u := by have := G6.out.size; omega
            rw [← hu] at K8
            clear H6 hu
            go_wp2_with fail
            refine K8.mono ?_
            clear K8
            rintro e w9 ⟨rfl, h9, F9⟩
            have G9 := Lib.hid (fr_quiet G6.out F9)
            have H9 := Lib.hid (h9.mono (Nat.le_succ _))
            clear F9 h9 G6
            go_wp2_with fail
            refine ⟨⟨k + 1, u, cnt, by omega, rfl, rfl, by omega, rfl, hu0, H9.out, G9.out⟩, by simp [intOf]; omega⟩
        · have e1 : decide (k < l.length) = false := decide_eq_false (by omega)
          have K8 := again_hst H6.out
          rw [HC.out] at K8
          obtain ⟨u, hu⟩ : ∃ u, u = w7.heap.size := ⟨_, rfl⟩
          have hu0 : w.heap.size ≤ u := by have := G6.out.size; omega
          rw [← hu] at K8
          clear H6 hu
          go_wp2_with fail
          refine K8.mono ?_
          clear K8
          rintro e w9 ⟨rfl, h9, F9⟩
          have G9 := Lib.hid (fr_quiet G6.out F9)
          have H9 := Lib.hid (h9.mono (Nat.le_succ _))
          clear F9 h9 G6
          go_wp2_with fail
          refine ⟨⟨k + 1, u, cnt, by omega, rfl, rfl, by omega, rfl, hu0, H9.out, G9.out⟩, by simp [intOf]; omega⟩
    · have hkn : k = nn := by omega
      have d1 : decide ((k : Int) < (nn : Int)) = false := decide_eq_false (by omega)
      have K1 := again_hst2 hH
      obtain ⟨u, hu⟩ : ∃ u, u = wr.heap.size := ⟨_, rfl⟩
      rw [← hu] at K1
      have HF := Lib.hid hF
      clear hF hH hnn hu
      go_wp2_with fail
      refine K1.mono ?_
      clear K1
      rintro e w7 ⟨rfl, ⟨m7, all7, M7, S7, hc7⟩, F7⟩
      have G7 := Lib.hid (fr_quiet HF.out F7)
      have H7 := Lib.hid M7
      have HS7 := Lib.hid S7
      subst hc7
      clear F7 M7 HF S7
      go_wp2_with fail
      refine (open_live H7.out HS7.out (by omega)).mono ?_
      rintro e w8 ⟨j2, k2, A2, cp2, rfl, L8, hj2, q2, q3, q4, F8⟩
      have G8 := Lib.hid (fr_quiet G7.out F8)
      have KN := next_armed L8
      generalize (all7.drop k2).length = len2 at *
      generalize all7.length = cnt at *
      clear F8 L8 G7 H7 hj2 q2 q3 q4 HS7
      go_wp2_with fail
      refine KN.mono ?_
      rintro e w9 ⟨rfl, rfl⟩
      go_wp2_with fail
      go_ret
      exact ⟨rfl, G8.out.toBelow⟩
end Go.Proofs.Ytdoljggaoidljaa
/- JournalOpens (P8.4, P8.2): opened again and again, with the power going in the openings too, a journal has room still, and all that it had. For every row of texts and every two whole numbers; no condition. -/
namespace Go.Proofs.Ytdoljggaoidljaa.journalOpens
open Go.ChangeShapes Go.WideShapes Go.ChangeAt Go.RowKit
open Go.ChangeMaps (open_string shut_string)

set_option maxRecDepth 100000 in
theorem lifted (os : Os) (started : os.Started) (H : Type) (enc : TypeId × Value → H) :
    ReturnsInHanded {} Try.checked os 5 .any (Rows.journalOpensSpec.pre6 enc Try.prog Try.f5 Rows.journalOpensRow.domain false) (Rows.journalOpensSpec.post enc Try.prog Try.f5 false true false false) := by
  refine returnsInHanded_of_change_sized (C := Try.checked) Try.own started (by kernel_rfl) Try.func5
    (ChangeSpec.witness6 (enc := enc) (C := Try.checked) false ⟨#[], #[.slice none 0 0, .int .i64 0, .int .i64 0], []⟩ 8 (by kernel_rfl) (by kernel_rfl) (by kernel_rfl) (by kernel_rfl)) ?_
  intro W base args ds gs before hval0 hW hcnd0 hsz0 _
  have hval : ∀ (j : Nat) t v, Try.f5.params[j]? = some t → args[j]? = some v → Value.okWide Try.prog W .any base t v := hval0
  have hW' := hW
  obtain ⟨p, q, hA0, hV, rfl, hfz, hnd⟩ := hW
  have hA : DataW.TrodAll enc Try.prog W 0 (fun _ => true) true Try.f5.params.toList args.toList ds p := hA0
  have hsz : (DataW.weightsEach Try.prog (Try.f5.params.toList ++ Rows.journalOpensSpec.plain.varTypes Try.prog) (ds ++ gs)).all (· ≤ reachBytes) = true := hsz0
  rw [Try.params5] at hA hval hsz
  obtain ⟨v0, v1, v2, d0, d1, d2, p0, p1, p2, rfl, rfl, rfl, h0, h1, h2⟩ := trodAll_three hA
  obtain ⟨rfl, rfl⟩ := trodVars_none hV
  obtain ⟨A0, c0, l0, rfl, hl0, hd0, _⟩ := open_texts (hval 0 22 v0 rfl rfl) h0
  obtain ⟨a1, rfl, rfl, rfl, w1⟩ := open_int Try.underlying3 (hval 1 3 v1 rfl rfl) h1
  have b1 : -9223372036854775808 ≤ a1 ∧ a1 ≤ 9223372036854775807 := by
    simp only [Lit.wf, IntKind.min, IntKind.max, IntKind.signed, IntKind.bits, Bool.and_eq_true, decide_eq_true_eq, if_true] at w1
    have := w1.1
    have := w1.2
    omega
  obtain ⟨a2, rfl, rfl, rfl, w2⟩ := open_int Try.underlying3 (hval 2 3 v2 rfl rfl) h2
  have b2 : -9223372036854775808 ≤ a2 ∧ a2 ≤ 9223372036854775807 := by
    simp only [Lit.wf, IntKind.min, IntKind.max, IntKind.signed, IntKind.bits, Bool.and_eq_true, decide_eq_true_eq, if_true] at w2
    have := w2.1
    have := w2.2
    omega
  have n0 : l0.length * 16 ≤ 140737488351232 := by
    rcases hd0 with ⟨_, rfl⟩ | ⟨rest, rfl⟩
    · simp
    · have := sized_slice hsz (j := 0) (t := 22) (e := 9) rfl rfl Try.underlying22
      have e9 : (strs (H := H) l0).length = l0.length := by simp [strs]
      rw [bytes_string, e9] at this
      unfold reachBytes at this
      omega
  refine (opens_walk W A0 c0 l0 a1 a2 hl0 (by omega) (WalkArith.wf_i64 b2)).mono fun e W' ⟨he, hb⟩ => ?_
  subst he
  exact law_post hW' rfl (by kernel_rfl) (by rw [Try.params5]; exact of_decide_eq_true (by kernel_rfl)) rfl rfl rfl hb

theorem proved : Rows.JournalOpensSaid :=
  OpenClaim.holds_of_wide 5 Try.f5 rfl rfl rfl rfl rfl rfl rfl ⟨rfl, rfl, rfl, rfl, rfl⟩ rfl rfl rfl rfl rfl (by kernel_rfl) Try.func5 (by kernel_rfl)
    (of_decide_eq_true (by kernel_rfl)) (by unfold Func.isWrapper; first | (rw [if_pos (by decide +kernel)]; kernel_rfl) | (rw [if_neg (by decide +kernel)]; exact ⟨rfl, rfl⟩))
    (fun os started H enc _ => lifted os started H enc)
end Go.Proofs.Ytdoljggaoidljaa.journalOpens

/- The contracts of Status and Orders: what is told, as a payload. -/
import Derived.Test.YtmohefkingnknaaTwrite
import Derived.Test.YtmohefkingnknaaTsp
namespace Go.Proofs.Ytmohefkingnknaa.Te
open Go.RowKit

/-- a slice of numbers that is read -/
structure L3 where
  A : Option Addr
  l : List Int
  c : Nat
def L3.val (x : L3) : Value := .slice x.A x.l.length x.c
structure L3.Ok (w : World) (x : L3) : Prop where
  rd : Rd w x.A (x.l.map (Value.int .i64))
  le : x.l.length ≤ 17592186044416
  lt : 0 < x.l.length → ∀ k, blk x.A = some k → k < w.heap.size
theorem L3.Ok.fr {w w1 : World} {x : L3} {S : Nat → Prop} (h : x.Ok w) (f : Fr S w w1) (hn : ∀ k, blk x.A = some k → ¬ S k) : x.Ok w1 :=
  ⟨h.rd.fr f hn, h.le, fun h0 k hk => Nat.lt_of_lt_of_le (h.lt h0 k hk) f.size⟩
/-- a status that is read -/
structure Sta where
  occ : L3
  pos : L3
  shut : L3
  lamp : L3
def Sta.cells (x : Sta) : List Value := [.slice x.occ.A x.occ.l.length x.occ.c, .slice x.pos.A x.pos.l.length x.pos.c, .slice x.shut.A x.shut.l.length x.shut.c, .slice x.lamp.A x.lamp.l.length x.lamp.c]
def Sta.val (x : Sta) : Value := .agg #[.slice x.occ.A x.occ.l.length x.occ.c, .slice x.pos.A x.pos.l.length x.pos.c, .slice x.shut.A x.shut.l.length x.shut.c, .slice x.lamp.A x.lamp.l.length x.lamp.c]
def Sta.st (x : Sta) : St := ⟨x.occ.l, x.pos.l, x.shut.l, x.lamp.l⟩
structure Sta.Ok (w : World) (x : Sta) : Prop where
  occ : x.occ.Ok w
  pos : x.pos.Ok w
  shut : x.shut.Ok w
  lamp : x.lamp.Ok w
theorem Sta.Ok.fr {w w1 : World} {x : Sta} (h : x.Ok w) (f : Fr (fun _ => False) w w1) : x.Ok w1 :=
  ⟨h.occ.fr f fun _ _ => id, h.pos.fr f fun _ _ => id, h.shut.fr f fun _ _ => id, h.lamp.fr f fun _ _ => id⟩
structure Ods where
  pos : L3
  asp : L3
  shut : L3
def Ods.cells (x : Ods) : List Value := [.slice x.pos.A x.pos.l.length x.pos.c, .slice x.asp.A x.asp.l.length x.asp.c, .slice x.shut.A x.shut.l.length x.shut.c]
def Ods.val (x : Ods) : Value := .agg #[.slice x.pos.A x.pos.l.length x.pos.c, .slice x.asp.A x.asp.l.length x.asp.c, .slice x.shut.A x.shut.l.length x.shut.c]
def Ods.st (x : Ods) : Or := ⟨x.pos.l, x.asp.l, x.shut.l⟩
structure Ods.Ok (w : World) (x : Ods) : Prop where
  pos : x.pos.Ok w
  asp : x.asp.Ok w
  shut : x.shut.Ok w
theorem Ods.Ok.fr {w w1 : World} {x : Ods} (h : x.Ok w) (f : Fr (fun _ => False) w w1) : x.Ok w1 :=
  ⟨h.pos.fr f fun _ _ => id, h.asp.fr f fun _ _ => id, h.shut.fr f fun _ _ => id⟩

theorem L3.Ok.pt {w : World} {x : L3} (h : x.Ok w) {b o n : Nat} {m : Int} (hn : n ≤ 17592186044416) (hc : w.cell? ⟨b, o, none⟩ = some (.slice x.A x.l.length x.c)) : (Pt.mk n m b o x.A x.l x.c).Ok w :=
  ⟨hc, h.rd, h.le, hn, h.lt⟩
/-- the parts of a status that lies at b -/
def stPs (h : Hs) (b : Nat) (x : Sta) : List Pt := [⟨h.s, 1, b, 0, x.occ.A, x.occ.l, x.occ.c⟩, ⟨h.p, 2, b, 1, x.pos.A, x.pos.l, x.pos.c⟩, ⟨h.c, 1, b, 2, x.shut.A, x.shut.l, x.shut.c⟩, ⟨h.g, 1, b, 3, x.lamp.A, x.lamp.l, x.lamp.c⟩]
def orPs (h : Hs) (b : Nat) (x : Ods) : List Pt := [⟨h.p, 2, b, 0, x.pos.A, x.pos.l, x.pos.c⟩, ⟨h.g, 2, b, 1, x.asp.A, x.asp.l, x.asp.c⟩, ⟨h.c, 1, b, 2, x.shut.A, x.shut.l, x.shut.c⟩]
theorem all_st (h : Hs) (b : Nat) (x : Sta) : (stPs h b x).all Pt.good = x.st.ok h := by
  show (okL _ _ _ && (okL _ _ _ && (okL _ _ _ && (okL _ _ _ && true)))) = _
  rw [Bool.and_true]
  rfl
theorem all_or (h : Hs) (b : Nat) (x : Ods) : (orPs h b x).all Pt.good = x.st.ok h := by
  show (okL _ _ _ && (okL _ _ _ && (okL _ _ _ && true))) = _
  rw [Bool.and_true]
  rfl
theorem wr_st (h : Hs) (b : Nat) (x : Sta) : wrP 1 (stPs h b x) = stL h x.st := by
  unfold wrP stL
  rw [all_st]
  have e : (1 : UInt8) :: bytesP (stPs h b x) = x.st.bytes := by
    show (1 : UInt8) :: (byL _ ++ (byL _ ++ (byL _ ++ (byL _ ++ [])))) = _
    rw [List.append_nil]
    rfl
  rw [e]
theorem wr_or (h : Hs) (b : Nat) (x : Ods) : wrP 2 (orPs h b x) = orL h x.st := by
  unfold wrP orL
  rw [all_or]
  have e : (2 : UInt8) :: bytesP (orPs h b x) = x.st.bytes := by
    show (2 : UInt8) :: (byL _ ++ (byL _ ++ (byL _ ++ []))) = _
    rw [List.append_nil]
    rfl
  rw [e]

theorem three_cells {w : World} {b : Nat} {t : TypeId} {a0 a1 a2 : Value} (h : Is w b t #[a0, a1, a2]) : w.cell? ⟨b, 0, none⟩ = some a0 ∧ w.cell? ⟨b, 1, none⟩ = some a1 ∧ w.cell? ⟨b, 2, none⟩ = some a2 :=
  ⟨(h.cell 0).trans rfl, (h.cell 1).trans rfl, (h.cell 2).trans rfl⟩
theorem status_any {h : Sh} (hh : h.Ok) {x : Sta} {w : World} (hx : x.Ok w) :
    Calls Try.prog 9 #[h.val, x.val] w fun e w' => e = .returned (.tuple #[.string ⟨(stL h.hs x.st).1.toArray⟩, .int .i64 (stL h.hs x.st).2]) ∧ Fr (fun _ => False) w w' := by
  have fa := (Fr.refl (fun _ => False) w).alloc (.cells h.cells.toArray 24)
  have fb := fa.alloc (.cells x.cells.toArray 26)
  have ix : Is ((w.alloc (.cells h.cells.toArray 24)).alloc (.cells x.cells.toArray 26)) (w.heap.size + 1) 26 x.cells.toArray := by
    have := Is.new (w.alloc (.cells h.cells.toArray 24)) 26 x.cells.toArray
    simpa using this
  have KS := sparts_any h (w.heap.size + 1)
  have KW := fun (W : World) (A : Option Addr) (k : Prs W A (stPs h.hs (w.heap.size + 1) x)) => write_any (c := 4) W k (by simp [stPs]) (by simp [stPs]) 1 (by decide)
  rw [show UInt8.ofNat 1 = 1 from rfl, wr_st] at KW
  generalize stL h.hs x.st = R at *
  have HX := Lib.hid hx
  have IX := Lib.hid ix
  have HH := Lib.hid hh
  clear hx ix hh
  go_enter Try.func9, Try.ntmps9
  unfold Sh.val Sta.val Sh.cells Sta.cells at *
  go_wp2_with fail
  refine (KS _).mono ?_
  rintro e w1 ⟨g, rfl, f1, _, r1⟩
  have P1 : Prs w1 (some ⟨g, 0, none⟩) (stPs h.hs (w.heap.size + 1) x) := by
    have HX1 := HX.out.fr (fr_nil fb f1)
    obtain ⟨c0, c1, c2, c3⟩ := four_cells (IX.out.fr f1 id)
    refine ⟨r1, fun p hp => ?_⟩
    simp only [stPs, List.mem_cons, List.not_mem_nil, or_false] at hp
    rcases hp with rfl | rfl | rfl | rfl
    · exact HX1.occ.pt HH.out.s c0
    · exact HX1.pos.pt HH.out.p c1
    · exact HX1.shut.pt HH.out.c c2
    · exact HX1.lamp.pt HH.out.g c3
  have KW1 := KW w1 _ P1
  clear KW KS
  go_wp2_with fail
  refine KW1.mono ?_
  rintro e w2 ⟨rfl, f2⟩
  go_wp2
  go_ret2
  exact ⟨rfl, fr_nil (fr_nil fb f1) f2⟩
theorem orders_any {h : Sh} (hh : h.Ok) {x : Ods} {w : World} (hx : x.Ok w) :
    Calls Try.prog 11 #[h.val, x.val] w fun e w' => e = .returned (.tuple #[.string ⟨(orL h.hs x.st).1.toArray⟩, .int .i64 (orL h.hs x.st).2]) ∧ Fr (fun _ => False) w w' := by
  have fa := (Fr.refl (fun _ => False) w).alloc (.cells h.cells.toArray 24)
  have fb := fa.alloc (.cells x.cells.toArray 28)
  have ix : Is ((w.alloc (.cells h.cells.toArray 24)).alloc (.cells x.cells.toArray 28)) (w.heap.size + 1) 28 x.cells.toArray := by
    have := Is.new (w.alloc (.cells h.cells.toArray 24)) 28 x.cells.toArray
    simpa using this
  have KS := oparts_any h (w.heap.size + 1)
  have KW := fun (W : World) (A : Option Addr) (k : Prs W A (orPs h.hs (w.heap.size + 1) x)) => write_any (c := 3) W k (by simp [orPs]) (by simp [orPs]) 2 (by decide)
  rw [show UInt8.ofNat 2 = 2 from rfl, wr_or] at KW
  generalize orL h.hs x.st = R at *
  have HX := Lib.hid hx
  have IX := Lib.hid ix
  have HH := Lib.hid hh
  clear hx ix hh
  go_enter Try.func11, Try.ntmps11
  unfold Sh.val Ods.val Sh.cells Ods.cells at *
  go_wp2_with fail
  refine (KS _).mono ?_
  rintro e w1 ⟨g, rfl, f1, _, r1⟩
  have P1 : Prs w1 (some ⟨g, 0, none⟩) (orPs h.hs (w.heap.size + 1) x) := by
    have HX1 := HX.out.fr (fr_nil fb f1)
    obtain ⟨c0, c1, c2⟩ := three_cells (IX.out.fr f1 id)
    refine ⟨r1, fun p hp => ?_⟩
    simp only [orPs, List.mem_cons, List.not_mem_nil, or_false] at hp
    rcases hp with rfl | rfl | rfl
    · exact HX1.pos.pt HH.out.p c0
    · exact HX1.asp.pt HH.out.g c1
    · exact HX1.shut.pt HH.out.c c2
  have KW1 := KW w1 _ P1
  clear KW KS
  go_wp2_with fail
  refine KW1.mono ?_
  rintro e w2 ⟨rfl, f2⟩
  go_wp2
  go_ret2
  exact ⟨rfl, fr_nil (fr_nil fb f1) f2⟩
end Go.Proofs.Ytmohefkingnknaa.Te

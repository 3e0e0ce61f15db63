/- The contract of the journal's readSheet. -/
import Derived.Test.YtdoljggaoidljaaGreatNote
namespace Go.Proofs.YtdoljggaoidljaaGreat
open Go.RowKit

def shV (A : Option Addr) (c : Nat) (s : Jo.Sh) (stop : Nat) : Value := .agg #[.string (safeT s.safe), .bool s.safe.isSome, .int .i64 (s.nth : Int), .int .i64 (s.first : Int), .slice A s.recs.length c, .int .i64 (stop : Int)]
def zeroSh : Value := .agg #[.string ⟨#[]⟩, .bool false, .int .i64 0, .int .i64 0, .slice none 0 0, .int .i64 0]
/-- what readSheet answers -/
def ReadSh (w : World) : Option (Jo.Sh × Nat) → Ending → World → Prop
  | none, e, w' => e = .returned (.tuple #[zeroSh, .bool false]) ∧ Fr (fun _ => False) w w'
  | some (s, stop), e, w' => ∃ A c, e = .returned (.tuple #[shV A c s stop, .bool true]) ∧ w'.ownsRow w.heap.size 49 3 (.slice A s.recs.length c) s.recs.length (recCells s.first s.recs) ∧ Fr (fun _ => False) w w'

theorem pa_val (l : List UInt8) : Pa.val l = (Jo.val4 l : Int) := by
  have : ∀ (l : List UInt8) (n : Nat), l.foldl (fun (n : Int) b => n * 256 + (b.toNat : Int)) (n : Int) = ((l.foldl (fun n b => n * 256 + b.toNat) n : Nat) : Int) := by
    intro l
    induction l with
    | nil => intro n; rfl
    | cons x r ih =>
      intro n
      rw [List.foldl_cons, List.foldl_cons, ← ih]
      congr 1
  exact this l 0
/-- the reader behind nine bytes -/
structure Nine (y : ByteArray) (r1 r2 r3 : Pa.Rs) : Prop where
  e1 : r1 = (⟨y, false⟩ : Pa.Rs).aft 4
  e2 : r2 = r1.aft 4
  e3 : r3 = r2.aft 1
theorem aft_ok {y : ByteArray} {n : Nat} (h : n ≤ y.size) : (⟨y, false⟩ : Pa.Rs).aft n = ⟨y.extract n y.size, false⟩ ∧ (⟨y, false⟩ : Pa.Rs).tk n = y.extract 0 n := by
  unfold Pa.Rs.aft Pa.Rs.tk Pa.Rs.no
  have : ¬ (false || decide (y.size < n)) = true := by rw [Bool.false_or, decide_eq_true_eq]; omega
  exact ⟨if_neg this, if_neg this⟩
theorem aft_short {y : ByteArray} {n : Nat} (h : y.size < n) : (⟨y, false⟩ : Pa.Rs).aft n = ⟨y, true⟩ := by
  unfold Pa.Rs.aft Pa.Rs.no
  have : (false || decide (y.size < n)) = true := by rw [Bool.false_or, decide_eq_true_eq]; exact h
  exact if_pos this
theorem aft_bad (y : ByteArray) (n : Nat) : (⟨y, true⟩ : Pa.Rs).aft n = ⟨y, true⟩ := by
  unfold Pa.Rs.aft Pa.Rs.no
  exact if_pos (by rw [Bool.true_or])
theorem drop_bytes (y : ByteArray) (n : Nat) (h : n ≤ y.size) : bytesOf (y.extract n y.size) = (bytesOf y).drop n ∧ (y.extract n y.size).size = y.size - n := by
  refine ⟨?_, by rw [ByteArray.size_extract]; omega⟩
  rw [bytesOf_extract, ← bytesOf_length, List.take_length]
theorem take_bytes (y : ByteArray) (n : Nat) : bytesOf (y.extract 0 n) = (bytesOf y).take n := by
  rw [bytesOf_extract, List.drop_zero]
theorem nine_ok {y : ByteArray} {r1 r2 r3 : Pa.Rs} (h : Nine y r1 r2 r3) (h9 : 9 ≤ y.size) :
    Pa.val (Pa.bytesOf ((⟨y, false⟩ : Pa.Rs).tk 4)) = (Jo.val4 ((bytesOf y).take 4) : Int) ∧ Pa.val (Pa.bytesOf (r1.tk 4)) = (Jo.val4 (((bytesOf y).drop 4).take 4) : Int) ∧ Pa.val (Pa.bytesOf (r2.tk 1)) = Jo.kindOf ((bytesOf y).drop 8) ∧ r3.bad = false ∧ r3.s.size = y.size - 9 := by
  obtain ⟨rfl, rfl, rfl⟩ := h
  obtain ⟨a1, t1⟩ := aft_ok (y := y) (n := 4) (by omega)
  obtain ⟨b1, z1⟩ := drop_bytes y 4 (by omega)
  rw [a1, t1]
  obtain ⟨a2, t2⟩ := aft_ok (y := y.extract 4 y.size) (n := 4) (by omega)
  obtain ⟨b2, z2⟩ := drop_bytes (y.extract 4 y.size) 4 (by omega)
  rw [a2, t2]
  obtain ⟨a3, _⟩ := aft_ok (y := (y.extract 4 y.size).extract 4 (y.extract 4 y.size).size) (n := 1) (by omega)
  obtain ⟨b3, z3⟩ := drop_bytes ((y.extract 4 y.size).extract 4 (y.extract 4 y.size).size) 1 (by omega)
  refine ⟨?_, ?_, ?_, by rw [a3], by rw [a3]; show (ByteArray.extract _ _ _).size = _; rw [z3, z2, z1]; omega⟩
  · rw [pa_val]
    show (Jo.val4 (bytesOf (y.extract 0 4)) : Int) = _
    rw [take_bytes]
  · rw [pa_val]
    show (Jo.val4 (bytesOf ((y.extract 4 y.size).extract 0 4)) : Int) = _
    rw [take_bytes, b1]
  · have k := byte_kind ((y.extract 4 y.size).extract 4 (y.extract 4 y.size).size)
    rw [k, b2, b1, List.drop_drop]
theorem nine_short {y : ByteArray} {r1 r2 r3 : Pa.Rs} (h : Nine y r1 r2 r3) (h9 : y.size < 9) : r3.bad = true ∧ r3.s.size ≤ y.size := by
  obtain ⟨rfl, rfl, rfl⟩ := h
  by_cases h4 : y.size < 4
  · rw [aft_short h4, aft_bad, aft_bad]
    exact ⟨rfl, Nat.le_refl _⟩
  · obtain ⟨a1, _⟩ := aft_ok (y := y) (n := 4) (by omega)
    obtain ⟨_, z1⟩ := drop_bytes y 4 (by omega)
    rw [a1]
    by_cases h8 : y.size < 8
    · rw [aft_short (by omega), aft_bad]
      exact ⟨rfl, by show (y.extract 4 y.size).size ≤ _; omega⟩
    · obtain ⟨a2, _⟩ := aft_ok (y := y.extract 4 y.size) (n := 4) (by omega)
      obtain ⟨_, z2⟩ := drop_bytes (y.extract 4 y.size) 4 (by omega)
      rw [a2, aft_short (by omega)]
      exact ⟨rfl, by show ((y.extract 4 y.size).extract 4 (y.extract 4 y.size).size).size ≤ _; omega⟩

/-- a block that holds a sheet -/
theorem own_base {w : World} {B B' size n : Nat} {e : TypeId} {v : Value} {xs : List Value} (h : w.ownsRow B e size v n xs) (hB : B' ≤ B) : w.ownsRow B' e size v n xs := by
  refine ⟨h.1, ?_⟩
  rcases h.2 with k | ⟨g, cap, cur, hv, hb, r⟩
  · exact .inl k
  · exact .inr ⟨g, cap, cur, hv, Nat.le_trans hB hb, r⟩
theorem sheet_set {W W' : World} {ob : Nat} {v0 u0 : ByteArray} {v1 u1 : Bool} {v2 v3 v5 u2 u3 u5 : Int} {A B : Option Addr} {n c m d : Nat} (h : Is W ob 68 #[.string v0, .bool v1, .int .i64 v2, .int .i64 v3, .slice A n c, .int .i64 v5])
    (hW : W' = (((((W.setCell ⟨ob, 0, none⟩ (.string u0)).setCell ⟨ob, 1, none⟩ (.bool u1)).setCell ⟨ob, 2, none⟩ (.int .i64 u2)).setCell ⟨ob, 3, none⟩ (.int .i64 u3)).setCell ⟨ob, 4, none⟩ (.slice B m d)).setCell ⟨ob, 5, none⟩ (.int .i64 u5)) :
    Is W' ob 68 #[.string u0, .bool u1, .int .i64 u2, .int .i64 u3, .slice B m d, .int .i64 u5] ∧ Fr (fun j => j = ob) W W' := by
  subst hW
  refine ⟨(((((h.set 0 (.string u0)).set 1 (.bool u1)).set 2 (.int .i64 u2)).set 3 (.int .i64 u3)).set 4 (.slice B m d)).set 5 (.int .i64 u5), ?_⟩
  exact ((((((Fr.refl (fun j => j = ob) W).setCell (p := ⟨ob, 0, none⟩) (.inl rfl) (.string u0)).setCell (p := ⟨ob, 1, none⟩) (.inl rfl) (.bool u1)).setCell (p := ⟨ob, 2, none⟩) (.inl rfl) (.int .i64 u2)).setCell (p := ⟨ob, 3, none⟩) (.inl rfl) (.int .i64 u3)).setCell (p := ⟨ob, 4, none⟩) (.inl rfl) (.slice B m d)).setCell (p := ⟨ob, 5, none⟩) (.inl rfl) (.int .i64 u5)
theorem sheet_cells {W : World} {ob : Nat} {v0 : ByteArray} {v1 : Bool} {v2 v3 v5 : Int} {A : Option Addr} {n c : Nat} (h : Is W ob 68 #[.string v0, .bool v1, .int .i64 v2, .int .i64 v3, .slice A n c, .int .i64 v5]) :
    W.cell? ⟨ob, 0, none⟩ = some (.string v0) ∧ W.cell? ⟨ob, 1, none⟩ = some (.bool v1) ∧ W.cell? ⟨ob, 2, none⟩ = some (.int .i64 v2) ∧ W.cell? ⟨ob, 3, none⟩ = some (.int .i64 v3) ∧ W.cell? ⟨ob, 4, none⟩ = some (.slice A n c) ∧ W.cell? ⟨ob, 5, none⟩ = some (.int .i64 v5) ∧ ∀ i, W.frozen? ⟨ob, i, none⟩ = false :=
  ⟨h.cell 0, h.cell 1, h.cell 2, h.cell 3, h.cell 4, h.cell 5, h.frozen⟩
theorem max_two (a b : Nat) (W : World) : (Builtin.max_ #[3, 3] 3 #[.int .i64 (a : Int), .int .i64 (b : Int)]).run Tryz.prog W = .ok (.int .i64 ((max a b : Nat) : Int)) W := by
  have e : (Builtin.max_ #[3, 3] 3 #[.int .i64 (a : Int), .int .i64 (b : Int)]).run Tryz.prog W = .ok (.int .i64 (if (b : Int) > (a : Int) then (b : Int) else (a : Int))) W := by simp [Builtin.max_, Builtin.max2]
  rw [e]
  congr 2
  split <;> omega
theorem sheet_ret {W : World} {ob : Nat} {v0 : ByteArray} {v1 : Bool} {v2 v3 v5 : Int} {A : Option Addr} {n c : Nat} {d : Bool} (h : Is W ob 68 #[.string v0, .bool v1, .int .i64 v2, .int .i64 v3, .slice A n c, .int .i64 v5]) {tm : Array Value} (h2 : tm.getD 2 undef = .pointer (some ⟨ob, 0, none⟩)) (h3 : tm.getD 3 undef = .bool d) :
    (results Tryz.f29 tm).run Tryz.prog W = .ok (.tuple #[.agg #[.string v0, .bool v1, .int .i64 v2, .int .i64 v3, .slice A n c, .int .i64 v5], .bool d]) W := by
  have c0 := h.cell 0
  have c1 := h.cell 1
  have c2 := h.cell 2
  have c3 := h.cell 3
  have c4 := h.cell 4
  have c5 := h.cell 5
  simp at c0 c1 c2 c3 c4 c5 h2 h3
  simp [results, Tryz.results29, go_sem, c0, c1, c2, c3, c4, c5, h2, h3]
set_option maxRecDepth 20000 in
set_option maxHeartbeats 8000000 in
theorem readSheet_any (s : ByteArray) (hs : s.size ≤ 5000) (w : World) :
    Calls Tryz.prog 29 #[.string s] w (ReadSh w (Jo.readSh (bytesOf s))) := by
  have hbl := bytesOf_length s
  have K : ∀ W, Calls Tryz.prog 41 #[.string s, .int .i64 0] W fun e w' => e = .returned (wholeV (Jo.whole (bytesOf s) 0)) ∧ Fr (fun _ => False) W w' := fun W => whole_any s (by omega) 0 W
  cases hw : Jo.whole (bytesOf s) 0 with
  | none =>
    rw [hw] at K
    simp only [wholeV] at K
    rw [Jo.readSh_none hw]
    clear hw hbl
    show Calls _ _ _ _ fun e w' => e = .returned (.tuple #[zeroSh, .bool false]) ∧ Fr (fun _ => False) w w'
    have f1 := (Fr.refl (fun _ => False) w).alloc (.cells #[.string ⟨#[]⟩, .bool false, .int .i64 0, .int .i64 0, .slice none 0 0, .int .i64 0] 68)
    have i1 := Is.new w 68 #[.string ⟨#[]⟩, .bool false, .int .i64 0, .int .i64 0, .slice none 0 0, .int .i64 0]
    obtain ⟨ob, hob⟩ : ∃ ob, ob = w.heap.size := ⟨_, rfl⟩
    rw [← hob] at i1
    have HOB : Hid (w.heap.size ≤ ob) := Lib.hid (Nat.le_of_eq hob.symm)
    have HF1 := Lib.hid f1
    have HI1 := Lib.hid i1
    clear f1 i1
    go_enter Tryz.func29, Tryz.ntmps29
    go_wp2_with fail
    rw [← hob]
    clear hob
    refine (K _).mono ?_
    rintro e w2 ⟨rfl, F2⟩
    have i2 := HI1.out.fr F2 id
    have hbl2 := i2.lt
    have c0 := i2.cell 0
    have c1 := i2.cell 1
    have c2 := i2.cell 2
    have c3 := i2.cell 3
    have c4 := i2.cell 4
    have c5 := i2.cell 5
    have cf := i2.frozen
    simp at c0 c1 c2 c3 c4 c5
    have HF2 := Lib.hid (HF1.out.trans F2 fun _ _ h => h)
    have HI2 := Lib.hid i2
    clear F2 HF1 HI1 K i2
    go_wp2_with fail
    have i3 := (((((HI2.out.set 0 (.string ⟨#[]⟩)).set 1 (.bool false)).set 2 (.int .i64 0)).set 3 (.int .i64 0)).set 4 (.slice none 0 0)).set 5 (.int .i64 0)
    have f3 := (((((((Fr.refl (fun j => j = ob) w2).setCell (p := ⟨ob, 0, none⟩) (.inl rfl) (.string ⟨#[]⟩)).setCell (p := ⟨ob, 1, none⟩) (.inl rfl) (.bool false)).setCell (p := ⟨ob, 2, none⟩) (.inl rfl) (.int .i64 0)).setCell (p := ⟨ob, 3, none⟩) (.inl rfl) (.int .i64 0)).setCell (p := ⟨ob, 4, none⟩) (.inl rfl) (.slice none 0 0)).setCell (p := ⟨ob, 5, none⟩) (.inl rfl) (.int .i64 0))
    exact bodyPost_ret (sheet_ret i3 rfl rfl) rfl ⟨rfl, HF2.out.trans f3 fun j hj e => by have h1 : j = ob := e; have := HOB.out; omega⟩
  | some be =>
    obtain ⟨b, e0⟩ := be
    obtain ⟨g1, g2, g3, _⟩ := whole_some hw
    rw [hbl] at g2
    rw [hw] at K
    simp only [wholeV] at K
    obtain ⟨y, hy⟩ : ∃ y : ByteArray, y = ⟨b.toArray⟩ := ⟨_, rfl⟩
    rw [← hy] at K
    have hyb : bytesOf y = b := by rw [hy]; rfl
    have hyz : y.size ≤ 1024 := by rw [← bytesOf_length, hyb]; exact g3
    have hbz : b.length = y.size := by rw [← hyb, bytesOf_length]
    obtain ⟨r1, h1⟩ : ∃ r1, r1 = (⟨y, false⟩ : Pa.Rs).aft 4 := ⟨_, rfl⟩
    obtain ⟨r2, h2⟩ : ∃ r2, r2 = r1.aft 4 := ⟨_, rfl⟩
    obtain ⟨r3, h3⟩ : ∃ r3, r3 = r2.aft 1 := ⟨_, rfl⟩
    have N : Nine y r1 r2 r3 := ⟨h1, h2, h3⟩
    obtain ⟨v1, hv1⟩ : ∃ v, v = Pa.val (Pa.bytesOf ((⟨y, false⟩ : Pa.Rs).tk 4)) := ⟨_, rfl⟩
    obtain ⟨v2, hv2⟩ : ∃ v, v = Pa.val (Pa.bytesOf (r1.tk 4)) := ⟨_, rfl⟩
    obtain ⟨v3, hv3⟩ : ∃ v, v = Pa.val (Pa.bytesOf (r2.tk 1)) := ⟨_, rfl⟩
    obtain ⟨fi, hfi⟩ : ∃ f, f = r3.fin := ⟨_, rfl⟩
    obtain ⟨z, hz⟩ : ∃ z, z = y.extract (y.size - r3.s.size) y.size := ⟨_, rfl⟩
    have hl3 : r3.s.size ≤ y.size := by
      by_cases h9 : 9 ≤ y.size
      · have := (nine_ok N h9).2.2.2.2; omega
      · exact (nine_short N (by omega)).2
    have KR : Hid (∀ W, Calls Tryz.prog 42 #[.string y] W fun e w' => e = .returned (.pointer (some ⟨W.heap.size, 0, none⟩)) ∧ w' = W.alloc (.cells #[.string y, .bool false] 117)) := Lib.hid fun W => Pa.read_any y W
    have KL1 : Hid (∀ W rb, Pa.Re W rb y false → Calls Tryz.prog 43 #[.pointer (some ⟨rb, 0, none⟩)] W fun e w' => e = .returned (.int .i64 v1) ∧ Pa.Re w' rb r1.s r1.bad ∧ Fr (fun k => k = rb) W w') := Lib.hid fun W rb h => by rw [hv1, h1]; exact Pa.rlong_any (r := ⟨y, false⟩) h
    have KL2 : Hid (∀ W rb, Pa.Re W rb r1.s r1.bad → Calls Tryz.prog 43 #[.pointer (some ⟨rb, 0, none⟩)] W fun e w' => e = .returned (.int .i64 v2) ∧ Pa.Re w' rb r2.s r2.bad ∧ Fr (fun k => k = rb) W w') := Lib.hid fun W rb h => by rw [hv2, h2]; exact Pa.rlong_any h
    have KB : Hid (∀ W rb, Pa.Re W rb r2.s r2.bad → Calls Tryz.prog 44 #[.pointer (some ⟨rb, 0, none⟩)] W fun e w' => e = .returned (.int .i64 v3) ∧ Pa.Re w' rb r3.s r3.bad ∧ Fr (fun k => k = rb) W w') := Lib.hid fun W rb h => by rw [hv3, h3]; exact Pa.rbyte_any h
    have KZ : Hid (∀ W rb, Pa.Re W rb r3.s r3.bad → Calls Tryz.prog 45 #[.string y, .pointer (some ⟨rb, 0, none⟩)] W fun e w' => e = .returned (.string z) ∧ W = w') := Lib.hid fun W rb h => by rw [hz]; exact rest_any h y hl3 (by omega)
    have KE : Hid (∀ W rb, Pa.Re W rb r3.s r3.bad → Calls Tryz.prog 46 #[.pointer (some ⟨rb, 0, none⟩)] W fun e w' => e = .returned (.int .i64 fi) ∧ W = w') := Lib.hid fun W rb h => by rw [hfi]; exact Pa.end_any h
    have HC : Hid ((fi = 1 ∧ b.length < 9) ∨ (fi ≠ 1 ∧ 9 ≤ b.length ∧ v1 = (Jo.val4 (b.take 4) : Int) ∧ v2 = (Jo.val4 ((b.drop 4).take 4) : Int) ∧ v3 = Jo.kindOf (b.drop 8) ∧ z = ⟨(b.drop 9).toArray⟩)) := Lib.hid (by
      by_cases h9 : 9 ≤ y.size
      · obtain ⟨q1, q2, q3, q4, q5⟩ := nine_ok N h9
        refine .inr ⟨?_, by omega, by rw [hv1, q1, hyb], by rw [hv2, q2, hyb], by rw [hv3, q3, hyb], ?_⟩
        · rw [hfi]; unfold Pa.Rs.fin; rw [q4, if_neg (by decide)]; split <;> decide
        · apply bytes_eq
          rw [hz, q5, show y.size - (y.size - 9) = 9 by omega, (drop_bytes y 9 h9).1, hyb]
          rfl
      · have := (nine_short N (by omega)).1
        exact .inl ⟨by rw [hfi]; unfold Pa.Rs.fin; rw [this, if_pos rfl], by omega⟩)
    have HR : Hid (Jo.readSh (bytesOf s) = if b.length < 9 ∨ 2147483647 < max (Jo.val4 (b.take 4)) (Jo.val4 ((b.drop 4).take 4)) ∨ Jo.val4 ((b.drop 4).take 4) < 1 ∨ 1000 < (b.drop 9).length then none
      else some (⟨Jo.val4 (b.take 4), Jo.val4 ((b.drop 4).take 4), if Jo.kindOf (b.drop 8) = 1 then some (b.drop 9) else none, (Jo.recs (bytesOf s) (bytesOf s).length e0).1⟩, (Jo.recs (bytesOf s) (bytesOf s).length e0).2)) := Lib.hid (by
      rw [Jo.readSh, hw])
    clear hw hy hyb hbz h1 h2 h3 N hv1 hv2 hv3 hfi hz hl3 g3 hbl g1 hyz
    have f1 := (Fr.refl (fun _ => False) w).alloc (.cells #[.string ⟨#[]⟩, .bool false, .int .i64 0, .int .i64 0, .slice none 0 0, .int .i64 0] 68)
    have i1 := Is.new w 68 #[.string ⟨#[]⟩, .bool false, .int .i64 0, .int .i64 0, .slice none 0 0, .int .i64 0]
    obtain ⟨ob, hob⟩ : ∃ ob, ob = w.heap.size := ⟨_, rfl⟩
    rw [← hob] at i1
    have HOB : Hid (w.heap.size ≤ ob) := Lib.hid (Nat.le_of_eq hob.symm)
    have HF1 := Lib.hid f1
    have HI1 := Lib.hid i1
    clear f1 i1
    go_enter Tryz.func29, Tryz.ntmps29
    go_wp2_with fail
    rw [← hob]
    clear hob
    refine (K _).mono ?_
    rintro e w2 ⟨rfl, F2⟩
    have HF2 := Lib.hid (HF1.out.trans F2 fun _ _ h => h)
    have HI2 := Lib.hid (HI1.out.fr F2 id)
    clear F2 HF1 HI1 K
    go_wp2_with fail
    refine (KR.out _).mono ?_
    rintro e w3 ⟨rfl, hw3⟩
    obtain ⟨rb, hrb⟩ : ∃ rb, rb = w2.heap.size := ⟨_, rfl⟩
    rw [← hrb]
    have e3 : Pa.Re w3 rb y false := by rw [hw3, hrb]; exact Is.new _ _ _
    have HF3 : Hid (Fr (fun _ => False) w w3) := Lib.hid (by rw [hw3]; exact HF2.out.alloc _)
    have HI3 : Hid (Is w3 ob 68 #[.string ⟨#[]⟩, .bool false, .int .i64 0, .int .i64 0, .slice none 0 0, .int .i64 0]) := Lib.hid (by rw [hw3]; exact HI2.out.alloc _)
    have hne : ob ≠ rb := by rw [hrb]; exact Nat.ne_of_lt HI2.out.lt
    have HRB : Hid (w.heap.size ≤ rb) := Lib.hid (by rw [hrb]; exact HF2.out.size)
    clear hw3 hrb HF2 HI2
    have K4 := KL1.out _ _ e3
    clear e3 KL1 KR
    go_wp2_with fail
    refine K4.mono ?_
    clear K4
    rintro e w4 ⟨rfl, e4, F4⟩
    have HF4 := Lib.hid (HF3.out.trans F4 fun j hj e => by have h1 : j = rb := e; have := HRB.out; omega)
    have HI4 := Lib.hid (HI3.out.fr F4 hne)
    have K5 := KL2.out _ _ e4
    clear e4 F4 HF3 HI3 KL2
    go_wp2_with fail
    refine K5.mono ?_
    clear K5
    rintro e w5 ⟨rfl, e5, F5⟩
    have f6 := (HF4.out.trans F5 fun j hj e => by have h1 : j = rb := e; have := HRB.out; omega).alloc (.cells #[.string ⟨#[]⟩, .bool false, .int .i64 v1, .int .i64 v2, .slice none 0 0, .int .i64 0] 68)
    have i6 := (HI4.out.fr F5 hne).alloc (.cells #[.string ⟨#[]⟩, .bool false, .int .i64 v1, .int .i64 v2, .slice none 0 0, .int .i64 0] 68)
    have j6 := Is.new w5 68 #[.string ⟨#[]⟩, .bool false, .int .i64 v1, .int .i64 v2, .slice none 0 0, .int .i64 0]
    have e6 := Is.alloc e5 (.cells #[.string ⟨#[]⟩, .bool false, .int .i64 v1, .int .i64 v2, .slice none 0 0, .int .i64 0] 68)
    have hrl := Is.lt e5
    have hol := (HI4.out.fr F5 hne).lt
    obtain ⟨sb, hsb⟩ : ∃ sb, sb = w5.heap.size := ⟨_, rfl⟩
    rw [← hsb] at j6 hrl hol
    have HSB : Hid (w.heap.size ≤ sb) := Lib.hid (by rw [hsb]; exact Nat.le_trans HF4.out.size F5.size)
    have K6 := KB.out _ _ e6
    have HF6 := Lib.hid f6
    have HI6 := Lib.hid i6
    have HJ6 := Lib.hid j6
    clear e5 F5 f6 i6 j6 e6 HF4 HI4 KB
    go_wp2_with fail
    rw [← hsb]
    clear hsb
    refine K6.mono ?_
    clear K6
    rintro e w7 ⟨rfl, e7, F7⟩
    have HF7 := Lib.hid (HF6.out.trans F7 fun j hj e => by have h1 : j = rb := e; have := HRB.out; omega)
    have HI7 := Lib.hid (HI6.out.fr F7 hne)
    have HJ7 := Lib.hid (HJ6.out.fr F7 (by omega))
    have K7 := KZ.out _ _ e7
    have K8 := KE.out _ _ e7
    clear e7 F7 HF6 HI6 HJ6 KZ KE
    go_wp2_with fail
    refine K7.mono ?_
    clear K7
    rintro e w' ⟨rfl, rfl⟩
    go_wp2_with fail
    refine K8.mono ?_
    clear K8
    rintro e w' ⟨rfl, rfl⟩
    rcases HC.out with ⟨c1, c2⟩ | ⟨c1, c2, c3, c4, c5, c6⟩
    · have hnone : Jo.readSh (bytesOf s) = none := by rw [HR.out, if_pos (.inl c2)]
      subst c1
      obtain ⟨x0, x1, x2, x3, x4, x5, xf⟩ := sheet_cells HI7.out
      obtain ⟨y0, y1, y2, y3, y4, y5, yf⟩ := sheet_cells HJ7.out
      clear c2 HR HC y0 y1 y4 y5 yf
      go_wp2_with fail
      obtain ⟨i9, f9⟩ := sheet_set (u0 := ⟨#[]⟩) (u1 := false) (u2 := 0) (u3 := 0) (u5 := 0) (B := none) (m := 0) (d := 0) HI7.out rfl
      refine bodyPost_ret (sheet_ret i9 rfl rfl) rfl ?_
      rw [hnone]
      exact ⟨rfl, HF7.out.trans f9 fun j hj e => by have h1 : j = ob := e; have := HOB.out; omega⟩
    · obtain ⟨n1, hn1⟩ : ∃ n, n = Jo.val4 (b.take 4) := ⟨_, rfl⟩
      obtain ⟨n2, hn2⟩ : ∃ n, n = Jo.val4 ((b.drop 4).take 4) := ⟨_, rfl⟩
      rw [← hn1] at c3
      rw [← hn2] at c4
      subst c3 c4
      have hmx := max_two n1 n2
      have hR := HR.out
      rw [← hn1, ← hn2] at hR
      have hzl : z.size = (b.drop 9).length := by rw [c6]; rfl
      rw [← c5] at hR
      have q0 : (fi == 1) = false := by simpa using c1
      obtain ⟨d, hd⟩ : ∃ d, d = b.drop 9 := ⟨_, rfl⟩
      rw [← hd] at hR hzl c6
      have HZ := Lib.hid c6
      obtain ⟨mx, hm⟩ : ∃ m, m = max n1 n2 := ⟨_, rfl⟩
      rw [← hm] at hmx hR
      have hm1 : n1 ≤ mx := by omega
      have hm2 : n2 ≤ mx := by omega
      obtain ⟨x0, x1, x2, x3, x4, x5, xf⟩ := sheet_cells HI7.out
      obtain ⟨y0, y1, y2, y3, y4, y5, yf⟩ := sheet_cells HJ7.out
      clear c1 c5 c6 hn1 hn2 hd HR HC hm
      by_cases b1 : 2147483647 < mx
      · have hnone : Jo.readSh (bytesOf s) = none := by rw [hR, if_pos (.inr (.inl b1))]
        have d1 : decide ((2147483647 : Int) < (mx : Int)) = true := by simp; omega
        clear hR b1 hzl hm1 hm2 y0 y1 y4 y5 yf
        go_wp2_with fail
        obtain ⟨i9, f9⟩ := sheet_set (u0 := ⟨#[]⟩) (u1 := false) (u2 := 0) (u3 := 0) (u5 := 0) (B := none) (m := 0) (d := 0) HI7.out rfl
        refine bodyPost_ret (sheet_ret i9 rfl rfl) rfl ?_
        rw [hnone]
        exact ⟨rfl, HF7.out.trans f9 fun j hj e => by have h1 : j = ob := e; have := HOB.out; omega⟩
      · have d1 : decide ((2147483647 : Int) < (mx : Int)) = false := by simp; omega
        by_cases b2 : n2 < 1
        · have hnone : Jo.readSh (bytesOf s) = none := by rw [hR, if_pos (.inr (.inr (.inl b2)))]
          have d2 : decide ((n2 : Int) < 1) = true := by simp; omega
          clear hR b1 b2 hzl hm1 hm2 y0 y1 y4 y5 yf
          go_wp2_with fail
          obtain ⟨i9, f9⟩ := sheet_set (u0 := ⟨#[]⟩) (u1 := false) (u2 := 0) (u3 := 0) (u5 := 0) (B := none) (m := 0) (d := 0) HI7.out rfl
          refine bodyPost_ret (sheet_ret i9 rfl rfl) rfl ?_
          rw [hnone]
          exact ⟨rfl, HF7.out.trans f9 fun j hj e => by have h1 : j = ob := e; have := HOB.out; omega⟩
        · have d2 : decide ((n2 : Int) < 1) = false := by simp; omega
          by_cases b3 : 1000 < d.length
          · have hnone : Jo.readSh (bytesOf s) = none := by rw [hR, if_pos (.inr (.inr (.inr b3)))]
            have d3 : decide ((1000 : Int) < (z.size : Int)) = true := by simp; omega
            clear hR b1 b2 b3 hzl hm1 hm2 y0 y1 y4 y5 yf
            go_wp2_with fail
            obtain ⟨i9, f9⟩ := sheet_set (u0 := ⟨#[]⟩) (u1 := false) (u2 := 0) (u3 := 0) (u5 := 0) (B := none) (m := 0) (d := 0) HI7.out rfl
            refine bodyPost_ret (sheet_ret i9 rfl rfl) rfl ?_
            rw [hnone]
            exact ⟨rfl, HF7.out.trans f9 fun j hj e => by have h1 : j = ob := e; have := HOB.out; omega⟩
          · have d3 : decide ((1000 : Int) < (z.size : Int)) = false := by simp; omega
            have hsome := hR.trans (if_neg (by rintro (k | k | k | k) <;> omega))
            have HS := Lib.hid hsome
            have hn2x : n2 ≤ 4294967296 := by omega
            have HLT := HJ7.out.lt
            have f8 := HF7.out.alloc (.cells #[.int .i64 0, .int .i64 v3, .string z] 49)
            have i8 := HI7.out.alloc (.cells #[.int .i64 0, .int .i64 v3, .string z] 49)
            have j8 := HJ7.out.alloc (.cells #[.int .i64 0, .int .i64 v3, .string z] 49)
            have r8 : Rd (w7.alloc (.cells #[.int .i64 0, .int .i64 v3, .string z] 49)) (some ⟨w7.heap.size, 0, none⟩) (recCells 0 [⟨v3, d⟩]) := by
              have := lit_rd w7 [.int .i64 0, .int .i64 v3, .string z] 49
              show Rd _ _ [.int .i64 0, .int .i64 v3, .string ⟨d.toArray⟩]
              rw [← HZ.out]
              exact this
            have KN := note_any (o := none) j8 rfl rfl (A := some ⟨w7.heap.size, 0, none⟩) (c := 1) (n := 0) (l := [⟨v3, d⟩]) r8 (fun _ g hg e => by have e' : w7.heap.size = g := by { injection hg }; omega) (by simp)
            obtain ⟨o', ho'⟩ : ∃ o', o' = (if v3 = 1 then some d else none : Option (List UInt8)) := ⟨_, rfl⟩
            rw [show Jo.lastSafe none [⟨v3, d⟩] = o' from ho'.symm] at KN
            have HO' := Lib.hid ho'
            have HF8 := Lib.hid f8
            have HI8 := Lib.hid i8
            clear hsome hR f8 i8 j8 r8 b1 b3 hzl hm1 ho' x0 x1 x2 x3 x4 x5 xf y0 y1 y4 y5 yf
            go_wp2_with fail
            refine KN.mono ?_
            clear KN
            rintro e w9 ⟨rfl, j9', F9⟩
            have j9 : Is w9 sb 68 #[.string (safeT o'), .bool o'.isSome, .int .i64 (n1 : Int), .int .i64 (n2 : Int), .slice none 0 0, .int .i64 0] := j9'
            have HF9 := Lib.hid (HF8.out.trans F9 fun j hj e => by have h1 : j = sb := e; have := HSB.out; omega)
            have HI9 := Lib.hid (HI8.out.fr F9 (by omega))
            have KC := recs_any s hs e0 n2 g2 hn2x w9
            obtain ⟨_, _, _, y3, _, _, _⟩ := sheet_cells j9
            have HJ9 := Lib.hid j9
            clear j9' F9 HF8 HI8 j9
            go_wp2_with fail
            refine KC.mono ?_
            clear KC
            rintro e w10 ⟨A, c, rfl, hown, F10⟩
            have HF10 := Lib.hid (HF9.out.trans F10 fun _ _ h => h)
            have HI10 := Lib.hid (HI9.out.fr F10 id)
            have HJ10 := Lib.hid (HJ9.out.fr F10 id)
            have hsz9 := HF9.out.size
            have hol9 := HI9.out.lt
            have hsl9 := HJ9.out.lt
            have HO := Lib.hid hown
            have HOL := Lib.hid (World.ownsRow.lt hown)
            have HZ9 : Hid (w.heap.size ≤ w9.heap.size ∧ ob < w9.heap.size ∧ sb < w9.heap.size) := Lib.hid ⟨hsz9, hol9, hsl9⟩
            obtain ⟨x0, x1, x2, x3, x4, x5, xf⟩ := sheet_cells HI10.out
            obtain ⟨y0, y1, y2, y3, y4, y5, yf⟩ := sheet_cells HJ10.out
            have hos : ob ≠ sb := by omega
            clear F10 hown HF9 HI9 HJ9 hsz9 hol9 hsl9
            generalize hst : safeT o' = sto at *
            have HST := Lib.hid hst
            clear hst
            generalize hRS : Jo.recs (bytesOf s) (bytesOf s).length e0 = RS at *
            go_wp2_with fail
            have i11 := (HI10.out.far (p := ⟨sb, 4, none⟩) hos (.slice A RS.1.length c)).far (p := ⟨sb, 5, none⟩) hos (.int .i64 (RS.2 : Int))
            have f11 := ((Fr.refl (fun j => j = sb) w10).setCell (p := ⟨sb, 4, none⟩) (.inl rfl) (.slice A RS.1.length c)).setCell (p := ⟨sb, 5, none⟩) (.inl rfl) (.int .i64 (RS.2 : Int))
            obtain ⟨i12, f12⟩ := sheet_set (u0 := sto) (u1 := o'.isSome) (u2 := n1) (u3 := n2) (u5 := RS.2) (B := A) (m := RS.1.length) (d := c) i11 rfl
            refine bodyPost_ret (sheet_ret i12 rfl rfl) rfl ?_
            obtain ⟨z1, z2, z3⟩ := HZ9.out
            rw [HS.out, ← HO'.out]
            refine ⟨A, c, by rw [← HST.out]; rfl, wide_fr (wide_fr (own_base HO.out z1) f11 fun j hj e => ?_) f12 fun j hj e => ?_, ?_⟩
            · have h1 : j = sb := e
              have := (HOL.out j hj).1
              omega
            · have h1 : j = ob := e
              have := (HOL.out j hj).1
              omega
            · refine (HF10.out.trans f11 fun j hj e => ?_).trans f12 fun j hj e => ?_
              · have h1 : j = sb := e
                have := HSB.out
                omega
              · have h1 : j = ob := e
                have := HOB.out
                omega
end Go.Proofs.YtdoljggaoidljaaGreat

/- The contract of the journal's note, Safe. -/
import Derived.Test.YtdoljggaoidljaaGreatRecs
import Derived.Test.YtdoljggaoidljaaGreatState
namespace Go.Proofs.YtdoljggaoidljaaGreat
open Go.RowKit

/-- a block whose first two cells are a safety state -/
def safeSet (cs : Array Value) (o : Option (List UInt8)) : Array Value := (cs.setIfInBounds 0 (.string (safeT o))).setIfInBounds 1 (.bool o.isSome)
theorem safeSet_again (cs : Array Value) (o o' : Option (List UInt8)) : ((safeSet cs o).setIfInBounds 0 (.string (safeT o'))).setIfInBounds 1 (.bool o'.isSome) = safeSet cs o' := by
  unfold safeSet
  apply Array.ext_getElem?
  intro i
  by_cases h1 : i = 1
  · subst h1
    by_cases hz : 1 < cs.size
    · rw [Array.getElem?_setIfInBounds_self_of_lt (by simpa using hz), Array.getElem?_setIfInBounds_self_of_lt (by simpa using hz)]
    · rw [Array.getElem?_eq_none (by simpa using hz), Array.getElem?_eq_none (by simpa using hz)]
  · rw [Array.getElem?_setIfInBounds_ne (fun e => h1 e.symm), Array.getElem?_setIfInBounds_ne (fun e => h1 e.symm)]
    by_cases h0 : i = 0
    · subst h0
      by_cases hz : 0 < cs.size
      · rw [Array.getElem?_setIfInBounds_self_of_lt (by simpa using hz), Array.getElem?_setIfInBounds_self_of_lt hz]
      · rw [Array.getElem?_eq_none (by simpa using hz), Array.getElem?_eq_none (by simpa using hz)]
    · rw [Array.getElem?_setIfInBounds_ne (fun e => h0 e.symm), Array.getElem?_setIfInBounds_ne (fun e => h0 e.symm), Array.getElem?_setIfInBounds_ne (fun e => h1 e.symm), Array.getElem?_setIfInBounds_ne (fun e => h0 e.symm)]
theorem safeSet_at {cs : Array Value} (h : 1 < cs.size) (o : Option (List UInt8)) : (safeSet cs o)[0]? = some (.string (safeT o)) ∧ (safeSet cs o)[1]? = some (.bool o.isSome) := by
  unfold safeSet
  refine ⟨?_, Array.getElem?_setIfInBounds_self_of_lt (by simpa using h)⟩
  rw [Array.getElem?_setIfInBounds_ne (by decide), Array.getElem?_setIfInBounds_self_of_lt (by omega)]
theorem safeSet_self {cs : Array Value} {o : Option (List UInt8)} (h0 : cs[0]? = some (.string (safeT o))) (h1 : cs[1]? = some (.bool o.isSome)) : safeSet cs o = cs := by
  unfold safeSet
  apply Array.ext_getElem?
  intro i
  have z1 := (Array.getElem?_eq_some_iff.1 h1).1
  by_cases e1 : i = 1
  · subst e1
    rw [Array.getElem?_setIfInBounds_self_of_lt (by simpa using z1), h1]
  · rw [Array.getElem?_setIfInBounds_ne (fun e => e1 e.symm)]
    by_cases e0 : i = 0
    · subst e0
      rw [Array.getElem?_setIfInBounds_self_of_lt (by omega), h0]
    · rw [Array.getElem?_setIfInBounds_ne (fun e => e0 e.symm)]
theorem recCells_at : ∀ (l : List Jo.Rc) (n j : Nat) (h : j < l.length), (recCells n l)[j * 3]? = some (.int .i64 ((n + j : Nat) : Int)) ∧ (recCells n l)[j * 3 + 1]? = some (.int .i64 l[j].kind) ∧ (recCells n l)[j * 3 + 2]? = some (.string ⟨l[j].text.toArray⟩)
  | r :: l, n, 0, _ => ⟨rfl, rfl, rfl⟩
  | r :: l, n, j + 1, h => by
    have := recCells_at l (n + 1) j (by simpa using h)
    rw [show n + 1 + j = n + (j + 1) by omega] at this
    rw [show (j + 1) * 3 = j * 3 + 3 by omega]
    exact this
theorem rd_rec {w : World} {A : Option Addr} {n : Nat} {l : List Jo.Rc} (h : Rd w A (recCells n l)) {j : Nat} (hj : j < l.length) : ∃ g o, A = some ⟨g, o, none⟩ ∧ g < w.heap.size ∧ w.cell? ⟨g, o + j * 3, none⟩ = some (.int .i64 ((n + j : Nat) : Int)) ∧ w.cell? ⟨g, o + j * 3 + 1, none⟩ = some (.int .i64 l[j].kind) ∧ w.cell? ⟨g, o + j * 3 + 2, none⟩ = some (.string ⟨l[j].text.toArray⟩) := by
  obtain ⟨h0, h1, h2⟩ := recCells_at l n j hj
  obtain ⟨g, o, rfl, hg, hc⟩ := h (by have := (List.getElem?_eq_some_iff.1 h0).1; omega)
  exact ⟨g, o, rfl, hg, hc _ _ h0, hc _ _ h1, hc _ _ h2⟩
theorem lastSafe_snoc (o : Option (List UInt8)) (l : List Jo.Rc) (j : Nat) (h : j < l.length) : Jo.lastSafe o (l.take (j + 1)) = if l[j].kind = 1 then some l[j].text else Jo.lastSafe o (l.take j) := by
  rw [List.take_succ_eq_append_getElem h, Jo.lastSafe_append]
  rfl
set_option maxRecDepth 10000 in
set_option maxHeartbeats 2000000 in
theorem note_any {w : World} {b : Nat} {t : TypeId} {cs : Array Value} {o : Option (List UInt8)} (hb : Is w b t cs) (h0 : cs[0]? = some (.string (safeT o))) (h1 : cs[1]? = some (.bool o.isSome))
    {A : Option Addr} {c n : Nat} {l : List Jo.Rc} (hl : Rd w A (recCells n l)) (hA : 0 < l.length → ∀ g, blk A = some g → g ≠ b) (hlen : l.length ≤ 4294967296) :
    Calls Tryz.prog 21 #[.pointer (some ⟨b, 0, none⟩), .slice A l.length c] w fun e w' => e = .returned (.tuple #[]) ∧ Is w' b t (safeSet cs (Jo.lastSafe o l)) ∧ Fr (fun j => j = b) w w' := by
  have hs := safeSet_self h0 h1
  have HB : Hid (Is w b t (safeSet cs (Jo.lastSafe o (l.take 0)))) := Lib.hid (by rw [List.take_zero]; show Is w b t (safeSet cs o); rw [hs]; exact hb)
  have HL := Lib.hid hl
  have HA := Lib.hid hA
  have hz1 := (Array.getElem?_eq_some_iff.1 h1).1
  clear hb h0 h1 hl hs hA
  go_enter Tryz.func21, Tryz.ntmps21
  go_wp2_with fail
  go_loopw [8] (fun i wr => ∃ k : Nat, k ≤ l.length ∧ i = .int .i64 (k : Int) ∧ Is wr b t (safeSet cs (Jo.lastSafe o (l.take k))) ∧ Fr (fun j => j = b) w wr) (fun i _ => l.length - (intOf i).toNat)
  case atStart => exact ⟨0, Nat.zero_le _, rfl, HB.out, Fr.refl _ _⟩
  case round =>
    clear HB
    obtain ⟨k, hk, rfl, hI, hF⟩ := hrel
    by_cases hlt : k < l.length
    · obtain ⟨g, o', rfl, hg, c0, c1, c2⟩ := rd_rec (HL.out.fr hF fun q hq e => HA.out (by omega) q hq e) hlt
      have hgb : g ≠ b := HA.out (by omega) g rfl
      have hbl := hI.lt
      have hfz := hI.frozen
      have z0 := (hI.cell 0).trans (safeSet_at hz1 _).1
      have z1 := (hI.cell 1).trans (safeSet_at hz1 _).2
      have hsn := lastSafe_snoc o l k hlt
      have HSN := Lib.hid hsn
      have HI := Lib.hid hI
      have HF := Lib.hid hF
      generalize l[k] = r at *
      obtain ⟨rk, rt⟩ := r
      have tz : safeT (some rt) = ⟨rt.toArray⟩ := rfl
      simp only at c0 c1 c2
      clear hsn hI hF
      by_cases h1 : rk = 1
      · subst h1
        have hn1 : Jo.lastSafe o (l.take (k + 1)) = some rt := by rw [HSN.out]; rfl
        have HN := Lib.hid hn1
        clear HSN hn1 tz
        generalize hxx : (⟨rt.toArray⟩ : ByteArray) = x at *
        go_wp2_with fail
        go_roundw
        case rel =>
          refine ⟨k + 1, by omega, by go_num, ?_, ((HF.out.setCell (p := ⟨b, 0, none⟩) (.inl rfl) _).setCell (p := ⟨b, 1, none⟩) (.inl rfl) _).alloc _⟩
          rw [HN.out, ← safeSet_again cs (Jo.lastSafe o (l.take k)) (some rt), show safeT (some rt) = x from hxx]
          exact ((HI.out.set 0 _).set 1 _).alloc _
        case measure => simp [intOf]; omega
      · have hn1 : Jo.lastSafe o (l.take (k + 1)) = Jo.lastSafe o (l.take k) := by rw [HSN.out]; exact if_neg h1
        have HN := Lib.hid hn1
        have q1 : (rk == 1) = false := by simpa using h1
        clear HSN hn1 h1 tz
        go_wp2_with fail
        go_roundw
        case rel => exact ⟨k + 1, by omega, by go_num, by rw [HN.out]; exact HI.out.alloc _, HF.out.alloc _⟩
        case measure => simp [intOf]; omega
    · have hkl : k = l.length := by omega
      subst hkl
      rw [List.take_length] at hI
      have HI := Lib.hid hI
      clear hI
      go_wp2_with fail
      go_end0
      exact ⟨rfl, HI.out, hF⟩
end Go.Proofs.YtdoljggaoidljaaGreat

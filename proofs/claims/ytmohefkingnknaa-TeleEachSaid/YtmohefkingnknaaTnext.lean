/- The contract of next: the next so many numbers of a byte. -/
import Derived.Test.YtmohefkingnknaaTstat
import Derived.Test.YtmohefkingnknaaPclone
namespace Go.Proofs.Ytmohefkingnknaa.Te
open Go.RowKit Go.Proofs.Ytmohefkingnknaa.Pa

/-- a row of which the first k numbers were read -/
def part (t : List UInt8) (n k : Nat) : List Value := ((inL (t.take k)).map (Value.int .i64)) ++ List.replicate (n - k) (.int .i64 0)
theorem part_length {t : List UInt8} {n k : Nat} (ht : n ≤ t.length) (hk : k ≤ n) : (part t n k).length = n := by
  unfold part
  rw [List.length_append, List.length_map, inL_length, List.length_take, List.length_replicate]
  omega
theorem part_set {t : List UInt8} {n k : Nat} (ht : n ≤ t.length) (hk : k < n) : (part t n k).toArray.setIfInBounds k (.int .i64 (t[k].toNat : Int)) = (part t n (k + 1)).toArray := by
  unfold part
  have hl : ((inL (t.take k)).map (Value.int .i64)).length = k := by rw [List.length_map, inL_length, List.length_take]; omega
  apply Array.ext'
  rw [Array.toList_setIfInBounds]
  show List.set _ _ _ = _
  rw [List.set_append_right _ _ (by omega), hl, Nat.sub_self, show n - k = (n - (k + 1)) + 1 by omega, List.replicate_succ, List.set_cons_zero]
  rw [List.take_succ_eq_append_getElem (show k < t.length by omega)]
  unfold inL
  rw [List.map_append, List.map_append, List.append_assoc]
  rfl
theorem part_all {t : List UInt8} {n : Nat} : part t n n = (inL (t.take n)).map (Value.int .i64) := by
  unfold part
  rw [Nat.sub_self, List.replicate_zero, List.append_nil]

theorem mk_ints0 (n : Nat) (hn : n * 8 ≤ 140737488355328) (W : World) : (Instr.makeSlice 22 (.int .i64 (n : Int)) (.int .i64 (n : Int))).run Try.prog W = .ok (.slice (some ⟨W.heap.size, 0, none⟩) n n) (W.alloc (.cells (List.replicate n (Value.int .i64 0)).toArray 3)) := by
  obtain ⟨i0, hi, hz0, hz1, hz2⟩ := info_parts Try.infoI
  have h := run_make (P := Try.prog) W 22 3 i0 (.int .i64 0) Try.underlying22 hi hz0 .i64 .i64 n n (by omega) (by omega) (by rw [hz2]; omega) (by omega)
  have e : madeCells (Value.int .i64 0).cells n = (List.replicate n (Value.int .i64 0)).toArray := by
    apply Array.ext'
    rw [← toList_madeCells_one]
    rfl
  simpa [hz1, e] using h
theorem mk_ints (n : Nat) (hn : n * 8 ≤ 140737488355328) (W : World) : (Instr.makeSlice 22 (.int .i64 (n : Int)) (.int .i64 (n : Int))).run Try.prog W = .ok (.slice (some ⟨W.heap.size, 0, none⟩) n n) (W.alloc (.cells (Array.replicate n (Value.int .i64 0)) 3)) := by
  have := mk_ints0 n hn W
  rwa [List.toArray_replicate] at this

set_option maxHeartbeats 1000000 in
theorem next_any {w : World} {b n : Nat} {s : ByteArray} (h : Re w b s false) (hn : n ≤ s.size) (hm : n ≤ 17592186044416) :
    Calls Try.prog 64 #[.pointer (some ⟨b, 0, none⟩), .int .i64 (n : Int)] w fun e w' =>
      ∃ g s', e = .returned (.slice (some ⟨g, 0, none⟩) n n) ∧ w.heap.size ≤ g ∧ g < w'.heap.size ∧ Rd w' (some ⟨g, 0, none⟩) ((inL ((bytesOf s).take n)).map (Value.int .i64)) ∧ Re w' b s' false ∧ bytesOf s' = (bytesOf s).drop n ∧ Fr (fun k => k = b) w w' := by
  have hsz : n ≤ (bytesOf s).length := by rw [bytesOf_length]; exact hn
  have hb := h.lt
  generalize hs0 : bytesOf s = t at *
  have hs : bytesOf s = t.drop 0 := hs0
  clear hs0
  have hmk := fun W => mk_ints n (by omega) W
  have HN := Lib.hid hn
  have HM := Lib.hid hm
  clear hm hn
  go_enter Try.func64, Try.ntmps64
  go_wp2_with fail
  have f0 : Fr (fun _ => False) w (w.alloc (.cells (Array.replicate n (Value.int .i64 0)) 3)) := (Fr.refl _ w).alloc _
  have i0 : Is (w.alloc (.cells (Array.replicate n (Value.int .i64 0)) 3)) w.heap.size 3 (part t n 0).toArray := by
    have e : (part t n 0).toArray = Array.replicate n (Value.int .i64 0) := by
      show (List.replicate (n - 0) _).toArray = _
      rw [List.toArray_replicate, Nat.sub_zero]
    rw [e]
    exact Is.new _ _ _
  have R0 : Re (w.alloc (.cells (Array.replicate n (Value.int .i64 0)) 3)) b s false := Is.alloc h _
  generalize w.alloc (.cells (Array.replicate n (Value.int .i64 0)) 3) = w0 at *
  have HS := Lib.hid hs
  clear hs
  clear h hmk
  go_loopw [11] (fun i wr => ∃ (k : Nat) (sk : ByteArray), k ≤ n ∧ i = .int .i64 (k : Nat) ∧ Re wr b sk false ∧ bytesOf sk = t.drop k ∧ Is wr w.heap.size 3 (part t n k).toArray ∧ Fr (fun k => k = b) w wr) (fun i _ => n - (intOf i).toNat)
  case atStart => exact ⟨0, s, Nat.zero_le _, rfl, R0, HS.out, i0, f0.mono fun _ _ h => h.elim⟩
  case round =>
    clear R0 i0 f0
    obtain ⟨k, sk, hk, rfl, R, hsk, ir, fr⟩ := hrel
    have hn9 : (n : Int) ≤ 17592186044416 := by have := HM.out; omega
    by_cases hlt : k < n
    · have KB := rbyte_any (r := ⟨sk, false⟩) R
      have hne : t.drop k ≠ [] := fun e => by
        have := congrArg List.length e
        rw [List.length_drop] at this
        simp at this
        omega
      obtain ⟨e1, e2, e3⟩ : val (bytesOf ((⟨sk, false⟩ : Rs).tk 1)) = (t[k].toNat : Int) ∧ bytesOf ((⟨sk, false⟩ : Rs).aft 1).s = t.drop (k + 1) ∧ ((⟨sk, false⟩ : Rs).aft 1).bad = false := by
        have hd : t.drop k = [t[k]] ++ t.drop (k + 1) := List.drop_eq_getElem_cons (by omega)
        have h := Rs.read_tk (r := ⟨sk, false⟩) (l := [t[k]]) (k := t.drop (k + 1)) rfl (by rw [← hd]; exact hsk)
        simp only [List.length_cons, List.length_nil, Nat.zero_add] at h
        refine ⟨?_, h.2.1, h.2.2⟩
        rw [h.1]
        simp [val]
      rw [e1, e3] at KB
      have E2 := Lib.hid e2
      have hset := part_set (t := t) hsz hlt
      have HSET := Lib.hid hset
      clear e1 e2 e3 hset hne hsk
      generalize ((⟨sk, false⟩ : Rs).aft 1).s = sn at *
      generalize (t[k].toNat : Int) = x at *
      go_wp2_with fail
      refine KB.mono ?_
      rintro e w2 ⟨rfl, R2, f2⟩
      have i2 := ir.fr f2 (by omega)
      have fr2 : Fr (fun k => k = b) w w2 := fr.trans f2 (fun _ _ h => h)
      have z2 := i2.frozen k
      have c2 : ∃ v, w2.cell? ⟨w.heap.size, k, none⟩ = some v := by
        have := i2.cell k
        rw [this]
        refine ⟨_, Array.getElem?_eq_getElem (by show k < (part t n k).length; rw [part_length hsz hk]; exact hlt)⟩
      obtain ⟨v2, c2⟩ := c2
      have i3 := i2.set k (.int .i64 x)
      rw [HSET.out] at i3
      have R3 : Re (w2.setCell ⟨w.heap.size, k, none⟩ (.int .i64 x)) b sn false := Is.far R2 (by show b ≠ w.heap.size; omega) _
      have fr3 : Fr (fun k => k = b) w (w2.setCell ⟨w.heap.size, k, none⟩ (.int .i64 x)) := fr2.setCell (.inr (Nat.le_refl _)) _
      clear i2 R2 fr2 f2 fr KB ir R HSET
      go_wp2_with fail
      go_roundw
      case rel => exact ⟨k + 1, sn, by omega, by go_num, R3, E2.out, i3, fr3⟩
      case measure => simp [intOf]; omega
    · have hk' : k = n := by omega
      subst hk'
      rw [part_all] at ir
      have hr : Rd wr (some ⟨w.heap.size, 0, none⟩) ((inL (t.take k)).map (Value.int .i64)) := fun _ => ⟨w.heap.size, 0, rfl, ir.lt, fun j u hu => by
        rw [Nat.zero_add, ir.cell j]
        simpa using hu⟩
      have hg := ir.lt
      clear ir
      go_wp2_with fail
      go_ret
      exact ⟨w.heap.size, sk, rfl, Nat.le_refl _, hg, hr, R, hsk, fr⟩
end Go.Proofs.Ytmohefkingnknaa.Te

/- General words for walks: texts as lists of bytes, rows that a call lays, reading, appending, converting. Nothing here speaks of one program's functions. -/
import Derived.Test.YtmohefkingnknaaRows
import Derived.Test.YtmohefkingnknaaHeap
import Derived.ProofKit
import Derived.OpenShut
import Derived.Lib.Hide
import Derived.Deep.QuietTactic
import Derived.BigQuiet
import Derived.IntWalk
namespace Go.Proofs.Ytmohefkingnknaa
open Go.RowKit

theorem Try.infoB : (Try.prog.info? 5).map (fun i => (i.zero, i.size, i.bytes)) = some (some (.int .u8 0), 1, 1) := by kernel_rfl
theorem row_form {e : TypeId} {w : World} {v : Value} {n : Nat} {xs : List Value} (h : w.ownsRow 0 e 1 v n xs) : ∃ A c, v = .slice A n c := by
  rcases h.2 with ⟨hv, h0⟩ | ⟨g, cap, cur, hv, _⟩
  · exact ⟨none, 0, by rw [hv, h0]⟩
  · exact ⟨_, _, hv⟩

/-- the bytes of a text -/
def bytesOf (s : ByteArray) : List UInt8 := s.data.toList
theorem bytesOf_length (s : ByteArray) : (bytesOf s).length = s.size := by unfold bytesOf; rw [Array.length_toList]; rfl
theorem bytesOf_mk (l : List UInt8) : bytesOf ⟨l.toArray⟩ = l := rfl
theorem bytesOf_inj {s t : ByteArray} (h : bytesOf s = bytesOf t) : s = t := by
  apply ByteArray.ext
  exact Array.ext' h
theorem mk_bytesOf (s : ByteArray) : (⟨(bytesOf s).toArray⟩ : ByteArray) = s := bytesOf_inj rfl
theorem bytesOf_empty : bytesOf ⟨#[]⟩ = [] := rfl
theorem bytesOf_extract (s : ByteArray) (a b : Nat) : bytesOf (s.extract a b) = ((bytesOf s).take b).drop a := by
  unfold bytesOf
  rw [ByteArray.data_extract, Array.toList_extract, List.extract_eq_take_drop, List.drop_take]
theorem bytesOf_append (s t : ByteArray) : bytesOf (s ++ t) = bytesOf s ++ bytesOf t := by
  unfold bytesOf
  rw [ByteArray.data_append, Array.toList_append]
theorem size_of (s : ByteArray) : s.size = (bytesOf s).length := (bytesOf_length s).symm
theorem toList_some {s : ByteArray} (h : s.size ≠ 0) : (!s.toList.isEmpty) = true := by
  have : s.toList ≠ [] := fun e => h (by rw [(toList_nil_iff_emptyBytes s).1 e]; rfl)
  simpa using this
theorem toList_none {s : ByteArray} (h : s.size = 0) : s.toList.isEmpty = true := by
  have e : s = ByteArray.empty := by
    apply ByteArray.ext
    exact Array.eq_empty_of_size_eq_zero h
  rw [e, (toList_nil_iff_emptyBytes ByteArray.empty).2 rfl]
  rfl
theorem bytes_at {s : ByteArray} {k : Nat} (h : k < s.size) : k < (bytesOf s).length := by rw [bytesOf_length]; exact h

theorem Fr.drewN {S : Nat → Prop} {w w1 : World} (h : Fr S w w1) (n : Nat) : Fr S w (w1.drewN n) := ⟨h.os, h.tape, h.output, h.size, h.block⟩

/-- what '[]byte(t)' lays, read byte by byte -/
theorem bytesRow_cell {w : World} {g : Nat} {t : ByteArray} {cap : Nat} {e : TypeId} {fr : Nat × Nat} (h : w.heap[g]? = some (.cells (bytesRow t cap) e fr)) (k : Nat) (hk : k < (bytesOf t).length) :
    w.cell? ⟨g, k, none⟩ = some (.int .u8 ((bytesOf t)[k].toNat : Int)) := by
  rw [cell_of_row w g k _ e fr h]
  have hs : k < t.data.size := by rw [bytesOf_length] at hk; exact hk
  have hs' : k < t.size := hs
  simp [bytesRow, bytesOf, Array.getElem?_append, hs']

theorem Rd.pre {w : World} {A : Option Addr} {xs ys : List Value} (h : Rd w A (xs ++ ys)) : Rd w A xs := fun h0 => by
  obtain ⟨b, o, hA, hb, hc⟩ := h (by rw [List.length_append]; omega)
  refine ⟨b, o, hA, hb, fun j u hu => hc j u ?_⟩
  rw [List.getElem?_append_left (List.getElem?_eq_some_iff.1 hu).1]
  exact hu
theorem Rd.at0 {w : World} {g : Nat} {xs : List Value} (h : Rd w (some ⟨g, 0, none⟩) xs) (j : Nat) (u : Value) (hu : xs[j]? = some u) : w.cell? ⟨g, j, none⟩ = some u := by
  obtain ⟨b, o, hA, hb, hc⟩ := h (by have := (List.getElem?_eq_some_iff.1 hu).1; omega)
  have k := hc j u hu
  injection hA with hA
  injection hA with h1 h2
  subst h1
  subst h2
  rw [Nat.zero_add] at k
  exact k
end Go.Proofs.Ytmohefkingnknaa

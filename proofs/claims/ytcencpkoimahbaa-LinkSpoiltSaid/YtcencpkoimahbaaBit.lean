/- A frame in which one byte is another one is none: plain mathematics. And the bytes that '[]byte(t)' lays, free to be written. -/
import Derived.Test.YtcencpkoimahbaaTeleg
import Derived.Test.YtcencpkoimahbaaSfeed
namespace Go.Proofs.Ytcencpkoimahbaa
open Go.RowKit Crc

theorem told_get {t : List UInt8} (h : 2 ≤ t.length) : told t = (t[0]'(by omega)).toNat * 256 + (t[1]'(by omega)).toNat := by
  unfold told
  rw [getElem!_pos t 0 (by omega), getElem!_pos t 1 (by omega)]
theorem frame_told {b : List UInt8} (hb : b.length ≤ 1024) : told (frame b) = b.length := by
  have h := (frame_parts b [] hb).1
  rwa [List.append_nil] at h
/-- one byte that is another one -/
theorem open_one {b : List UInt8} (hb : b.length ≤ 1024) {k : Nat} (hk : k < (frame b).length) {v : UInt8} (hv : v ≠ (frame b)[k]) : (openL ((frame b).set k v)).2 ≠ 0 := by
  have hl := frame_length b
  by_cases h2 : 2 ≤ k
  · have e1 : frame b = (frame b).take k ++ [(frame b)[k]] ++ (frame b).drop (k + 1) := by
      rw [List.append_assoc, List.singleton_append, ← List.drop_eq_getElem_cons hk, List.take_append_drop]
    have e2 : (frame b).set k v = (frame b).take k ++ [v] ++ (frame b).drop (k + 1) := by
      rw [List.set_eq_take_append_cons_drop, if_pos hk, List.append_assoc, List.singleton_append]
    rw [e2, open_spoilt (x := [(frame b)[k]]) (y := [v]) hb e1 (by rw [List.length_take]; omega) rfl (by simp) (by intro h; injection h with h; exact hv h.symm)]
    decide
  · have hs : ((frame b).set k v).length = b.length + 6 := by rw [List.length_set, hl]
    have ht := frame_told hb
    have hn : told ((frame b).set k v) ≠ b.length := by
      rw [told_get (by omega)] at ht
      rw [told_get (by omega)]
      have h0 := UInt8.toNat_lt ((frame b)[0]'(by omega))
      have h1 := UInt8.toNat_lt ((frame b)[1]'(by omega))
      have hvn : v.toNat ≠ ((frame b)[k]).toNat := fun h => hv (UInt8.toNat_inj.1 h)
      have hv0 := UInt8.toNat_lt v
      have hk01 : k = 0 ∨ k = 1 := by omega
      rcases hk01 with rfl | rfl
      · rw [List.getElem_set_self, List.getElem_set_ne (by decide)]
        omega
      · rw [List.getElem_set_self, List.getElem_set_ne (by decide)]
        omega
    unfold openL
    rw [hs, if_neg (by omega)]
    by_cases h3 : 1024 < told ((frame b).set k v)
    · rw [if_pos h3]; decide
    · rw [if_neg h3]
      by_cases h4 : b.length + 6 < told ((frame b).set k v) + 6
      · rw [if_pos h4]; decide
      · rw [if_neg h4, if_pos (by omega)]; decide
theorem read_one {b : List UInt8} (hb : b.length ≤ 1024) {k : Nat} (hk : k < (frame b).length) {v : UInt8} (hv : v ≠ (frame b)[k]) : (Li.readL ((frame b).set k v)).e ≠ 0 := by
  have h := open_one hb hk hv
  unfold Li.readL Li.readB
  rw [if_pos h]
  exact h
theorem u8_xor (a b : UInt8) : Go.bits .xor .u8 (a.toNat : Int) (b.toNat : Int) = ((a ^^^ b).toNat : Int) := by
  have ha := UInt8.toNat_lt a
  have hb := UInt8.toNat_lt b
  have hx : a.toNat ^^^ b.toNat < 2 ^ 8 := by rw [← UInt8.toNat_xor]; exact UInt8.toNat_lt _
  show IntKind.u8.wrap ((BitVec.ofInt 8 (a.toNat : Int) ^^^ BitVec.ofInt 8 (b.toNat : Int)).toNat : Int) = _
  rw [UInt8.toNat_xor, BitVec.toNat_xor, BitVec.ofInt_natCast, BitVec.ofInt_natCast, BitVec.toNat_ofNat, BitVec.toNat_ofNat, Nat.mod_eq_of_lt (by omega), Nat.mod_eq_of_lt (by omega), IntKind.wrap_u8]
  omega
theorem xor_ne {x m : UInt8} (h : m ≠ 0) : x ^^^ m ≠ x := by
  intro e
  apply h
  have : x ^^^ (x ^^^ m) = x ^^^ x := by rw [e]
  rwa [← UInt8.xor_assoc, UInt8.xor_self, UInt8.zero_xor] at this
/-- At block b lie these bytes, free to be written. -/
def Bw (w : World) (b : Nat) (bs : List UInt8) : Prop := ∃ cs fr, w.heap[b]? = some (.cells cs 5 fr) ∧ bs.length ≤ fr.1 ∧ bs.length ≤ cs.size ∧ ∀ j (h : j < bs.length), cs[j]? = some (B bs[j])
namespace Bw
variable {w w1 : World} {b : Nat} {bs : List UInt8}
theorem lt (h : Bw w b bs) : b < w.heap.size := by obtain ⟨cs, fr, h1, _⟩ := h; exact lt_of_block h1
theorem cell (h : Bw w b bs) {j : Nat} (hj : j < bs.length) : w.cell? ⟨b, j, none⟩ = some (B bs[j]) := by
  obtain ⟨cs, fr, h1, h2, h3, h4⟩ := h
  rw [cell_of_row w b j cs _ fr h1]
  exact h4 j hj
theorem frozen (h : Bw w b bs) {j : Nat} (hj : j < bs.length) : w.frozen? ⟨b, j, none⟩ = false := by
  obtain ⟨cs, fr, h1, h2, h3, h4⟩ := h
  obtain ⟨lo, hi⟩ := fr
  simp only [World.frozen?, h1]
  have : ¬ lo ≤ j := by have : bs.length ≤ lo := h2; omega
  simp [this]
theorem fr {S : Nat → Prop} (h : Bw w b bs) (f : Fr S w w1) (hn : ¬ S b) : Bw w1 b bs := by
  obtain ⟨cs, fr, h1, h2⟩ := h
  exact ⟨cs, fr, (f.block b (lt_of_block h1) hn).trans h1, h2⟩
theorem set (h : Bw w b bs) {j : Nat} (y : UInt8) : Bw (w.setCell ⟨b, j, none⟩ (B y)) b (bs.set j y) := by
  obtain ⟨cs, fr, h1, h2, h3, h4⟩ := h
  refine ⟨cs.setIfInBounds j (B y), fr, ?_, by rw [List.length_set]; exact h2, by rw [List.length_set, Array.size_setIfInBounds]; exact h3, fun i hi => ?_⟩
  · simp [World.setCell, Array.getElem?_modify, h1]
  · rw [List.length_set] at hi
    by_cases hij : j = i
    · subst hij
      rw [Array.getElem?_setIfInBounds_self, if_pos (by omega), List.getElem_set_self]
    · rw [Array.getElem?_setIfInBounds_ne hij, List.getElem_set_ne hij]
      exact h4 i hi
theorem text (h : Bw w b bs) {n : Nat} (c : Nat) (hn : bs.length = n) : (convert 59 9 (.slice (some ⟨b, 0, none⟩) n c)).run Try.prog w = .ok (.string ⟨bs.toArray⟩) w := by
  subst hn
  refine run_convert_bytes_back _ _ _ _ ⟨b, 0, none⟩ c bs Try.underlying59 Try.underlying5 Try.underlying9 fun j hj => ?_
  have e1 : (⟨b, 0, none⟩ : Addr).add j = ⟨b, j, none⟩ := by unfold Addr.add; split <;> simp_all
  rw [e1]
  exact h.cell hj
/-- what '[]byte(t)' lays -/
theorem new (w : World) (t : ByteArray) (cap n : Nat) (hn : t.size ≤ n) : Bw (w.alloc (.cells (bytesRow t cap) 5 (n, n + 1))) w.heap.size (bytesOf t) := by
  refine ⟨_, _, heap_alloc_new w _, by rw [bytesOf_length]; exact hn, ?_, fun j hj => ?_⟩
  · rw [bytesOf_length]
    have e : t.data.size = t.size := rfl
    simp [bytesRow]
  · have hs : j < t.data.size := by rw [bytesOf_length] at hj; exact hj
    have hs' : j < t.size := hs
    simp [bytesRow, bytesOf, B, Array.getElem?_append, hs']
end Bw
end Go.Proofs.Ytcencpkoimahbaa

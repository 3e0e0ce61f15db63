/- Plain: what the calls answer where no cut comes, or one does. Remainders; heads of texts. -/
import Derived.Test.YtafhkhkpknipmaaLives
import Derived.Laws.BitsAllLaws
namespace Go.Proofs.Ytafhkhkpknipmaa
open Go.RowKit

theorem umod (a : Int) (m : Nat) (h0 : 0 < m) (h : m ≤ 4611686018427387904) : ∃ n : Nat, wrap64 ((IntKind.u64.wrap a).tmod (m : Int)) = n ∧ n < m := by
  have hw : 0 ≤ IntKind.u64.wrap a := by rw [IntKind.wrap_u64]; omega
  rw [Int.tmod_eq_emod_of_nonneg hw]
  have h1 := Int.emod_nonneg (IntKind.u64.wrap a) (b := (m : Int)) (by omega)
  have h2 := Int.emod_lt_of_pos (IntKind.u64.wrap a) (b := (m : Int)) (by omega)
  generalize IntKind.u64.wrap a % (m : Int) = x at *
  rw [IntWalk.wrap64_in _ ⟨by omega, by omega⟩]
  exact ⟨x.toNat, by omega, by omega⟩

variable {m : Mm}
theorem spot_is (hd : m.down = false) {p a n : Nat} (hp : p < 24) (ha : a + n ≤ 4096) : m.spotE (p : Int) (a : Int) (n : Int) = 0 := by
  unfold Mm.spotE
  rw [if_neg (by rw [hd]; decide), if_neg (by omega), if_neg (by omega)]
theorem spot_down (hd : m.down = true) (p a n : Int) : m.spotE p a n = 14 := by
  unfold Mm.spotE
  rw [if_pos hd]
theorem part_free (h : m.hit = false) (n : Nat) : m.part n = n := by
  unfold Mm.hit at h
  unfold Mm.part
  cases hc : m.cut (m.acts - m.armed) with
  | none => rfl
  | some x => rw [hc] at h; cases h
theorem part_hit {x : Int} (h : m.cut (m.acts - m.armed) = some x) (n : Nat) : m.part n = min x.toNat n := by
  unfold Mm.part
  rw [h]
theorem hit_of {x : Int} (h : m.cut (m.acts - m.armed) = some x) : m.hit = true := by
  unfold Mm.hit
  rw [h]
  rfl
theorem hit_none (h : ∀ i, m.cut i = none) : m.hit = false := by
  unfold Mm.hit
  rw [h]
  rfl
/-- Burn where all is bare and no cut comes -/
theorem burn_free (hd : m.down = false) (hh : m.hit = false) {p a : Nat} {t : List UInt8} (hp : p < 24) (ha : a + t.length ≤ 4096) (hb : ∀ i, i < t.length → m.pg p (a + i) = 255) :
    m.burnE (p : Int) (a : Int) t = 0 ∧ m.burnM (p : Int) (a : Int) t = { m with acts := m.acts + 1, pg := layP m.pg p a t } := by
  have hs := spot_is (m := m) hd hp ha
  have hb0 : m.burnt (p : Int) (a : Int) t.length = 0 := (bareN_zero _ _).2 hb
  obtain ⟨h1, h2⟩ := burnE_ok hs hb0
  refine ⟨h1.trans (by unfold Mm.actE; rw [if_neg (by rw [hh]; decide)]), h2.trans ?_⟩
  rw [part_free hh, List.take_length]
  unfold Mm.act
  rw [hh, ← hd]
  rfl
theorem burn_hit (hd : m.down = false) {x : Int} (hc : m.cut (m.acts - m.armed) = some x) {p a : Nat} {t : List UInt8} (hp : p < 24) (ha : a + t.length ≤ 4096) (hb : ∀ i, i < t.length → m.pg p (a + i) = 255) :
    m.burnE (p : Int) (a : Int) t = 14 ∧ m.burnM (p : Int) (a : Int) t = { m with acts := m.acts + 1, down := true, pg := layP m.pg p a (t.take (min x.toNat t.length)) } := by
  have hs := spot_is (m := m) hd hp ha
  have hb0 : m.burnt (p : Int) (a : Int) t.length = 0 := (bareN_zero _ _).2 hb
  obtain ⟨h1, h2⟩ := burnE_ok hs hb0
  refine ⟨h1.trans (by unfold Mm.actE; rw [if_pos (hit_of hc)]), h2.trans ?_⟩
  rw [part_hit hc]
  unfold Mm.act
  rw [hit_of hc]
  rfl
/-- Burn where a byte isn't bare -/
theorem burn_full (hd : m.down = false) {p a : Nat} {t : List UInt8} (hp : p < 24) (ha : a + t.length ≤ 4096) {i : Nat} (hi : i < t.length) (hb : m.pg p (a + i) ≠ 255) :
    m.burnE (p : Int) (a : Int) t = 15 ∧ m.burnM (p : Int) (a : Int) t = m :=
  burnE_burnt (spot_is hd hp ha) fun h => hb ((bareN_zero _ _).1 h i hi)
theorem burn_down (hd : m.down = true) (p a : Int) (t : List UInt8) : m.burnE p a t = 14 ∧ m.burnM p a t = m := by
  have hs : m.spotE p a t.length = 14 := spot_down hd _ _ _
  have := burnE_no (m := m) (p := p) (a := a) (t := t) (by rw [hs]; decide)
  rw [hs] at this
  exact this
theorem erase_free (hd : m.down = false) (hh : m.hit = false) {p : Nat} (hp : p < 24) :
    m.eraseE (p : Int) = 0 ∧ m.eraseM (p : Int) = { m with acts := m.acts + 1, pg := layP m.pg p 0 (List.replicate 4096 255), worn := fun q => if q = p then m.worn q + 1 else m.worn q } := by
  have hs : m.spotE (p : Int) 0 4096 = 0 := spot_is (m := m) (a := 0) (n := 4096) hd hp (Nat.le_refl _)
  obtain ⟨h1, h2⟩ := eraseE_ok hs
  refine ⟨h1.trans (by unfold Mm.actE; rw [if_neg (by rw [hh]; decide)]), h2.trans ?_⟩
  rw [part_free hh]
  unfold Mm.act
  rw [hh, ← hd]
theorem erase_hit (hd : m.down = false) {x : Int} (hc : m.cut (m.acts - m.armed) = some x) {p : Nat} (hp : p < 24) :
    m.eraseE (p : Int) = 14 ∧ m.eraseM (p : Int) = { m with acts := m.acts + 1, down := true, pg := layP m.pg p 0 (List.replicate (min x.toNat 4096) 255), worn := fun q => if q = p then m.worn q + 1 else m.worn q } := by
  have hs : m.spotE (p : Int) 0 4096 = 0 := spot_is (m := m) (a := 0) (n := 4096) hd hp (Nat.le_refl _)
  obtain ⟨h1, h2⟩ := eraseE_ok hs
  refine ⟨h1.trans (by unfold Mm.actE; rw [if_pos (hit_of hc)]), h2.trans ?_⟩
  rw [part_hit hc]
  unfold Mm.act
  rw [hit_of hc]
theorem erase_down (hd : m.down = true) (p : Int) : m.eraseE p = 14 ∧ m.eraseM p = m := by
  have hs : m.spotE p 0 4096 = 14 := spot_down hd _ _ _
  have := eraseE_no (m := m) (p := p) (by rw [hs]; decide)
  rw [hs] at this
  exact this
theorem read_is (hd : m.down = false) {p a : Nat} {l : List UInt8} (hp : p < 24) (ha : a + l.length ≤ 4096) (h : ∀ i x, l[i]? = some x → m.pg p (a + i) = x) :
    m.spotE (p : Int) (a : Int) (l.length : Int) = 0 ∧ m.readT (p : Int) (a : Int) (l.length : Int) = l := by
  have hs := spot_is (m := m) hd hp ha
  refine ⟨hs, ?_⟩
  unfold Mm.readT
  rw [if_pos hs]
  exact cutP_eq _ _ _ h
theorem read_cut (hd : m.down = false) {p a n : Nat} (hp : p < 24) (ha : a + n ≤ 4096) : m.spotE (p : Int) (a : Int) (n : Int) = 0 ∧ m.readT (p : Int) (a : Int) (n : Int) = cutP (m.pg p) a n := by
  have hs := spot_is (m := m) hd hp ha
  refine ⟨hs, ?_⟩
  unfold Mm.readT
  rw [if_pos hs]
  rfl
theorem bare_is {p k : Nat} (hp : p < 24) (hk : k ≤ 4096) (h1 : ∀ i, k ≤ i → i < 4096 → m.pg p i = 255) (h2 : k = 0 ∨ m.pg p (k - 1) ≠ 255) : m.bare (p : Int) = k := by
  unfold Mm.bare
  rw [if_pos (by omega)]
  exact bareN_is _ _ _ hk h1 h2
theorem lay_rep (g : Nat → Nat → UInt8) (p n q i : Nat) : layP g p 0 (List.replicate n 255) q i = if q = p ∧ i < n then 255 else g q i := by
  by_cases h : q = p ∧ i < n
  · rw [if_pos h]
    obtain ⟨rfl, hi⟩ := h
    have := layP_in g q 0 (List.replicate n 255) i 255 (by rw [List.getElem?_replicate, if_pos hi])
    rw [Nat.zero_add] at this
    exact this
  · rw [if_neg h, layP_out _ _ _ _ _ _ (by rw [List.length_replicate]; omega)]
/-- the head of a text -/
def headT (s : ByteArray) (n : Nat) : ByteArray := s.extract 0 (min s.size n)
theorem headT_size (s : ByteArray) (n : Nat) : (headT s n).size = min s.size n := by
  unfold headT
  rw [ByteArray.size_extract]
  omega
end Go.Proofs.Ytafhkhkpknipmaa

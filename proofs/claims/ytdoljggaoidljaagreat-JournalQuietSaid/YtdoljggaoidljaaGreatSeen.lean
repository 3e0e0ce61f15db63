/- Contracts as the laws use them: with what is answered, and what the memory is then, given; frames that leave all that was there. -/
import Derived.Test.YtdoljggaoidljaaGreatArm
import Derived.Test.YtdoljggaoidljaaGreatAgain
namespace Go.Proofs.YtdoljggaoidljaaGreat
open Go.RowKit Go.Maps

/-- what a block that the call made is read as -/
theorem rd_is {w : World} {b : Nat} {t : TypeId} {cs : Array Value} (h : Is w b t cs) : Rd w (some ⟨b, 0, none⟩) cs.toList := fun _ =>
  ⟨b, 0, rfl, h.lt, fun j u hu => by rw [Nat.zero_add]; exact (h.cell j).trans (by rw [← Array.getElem?_toList]; exact hu)⟩
theorem fr_foot {B b : Nat} {r : Option Nat} {w w1 w2 : World} (F : Fr (fun k => B ≤ k) w w1) (f : Fr (Foot b r) w1 w2) (hb : B ≤ b) (hr : ∀ k, r = some k → B ≤ k) : Fr (fun k => B ≤ k) w w2 :=
  F.trans f fun k _ hk => by
    rcases hk with rfl | hk
    · exact hb
    · exact hr k hk
theorem fr_one {B b : Nat} {w w1 w2 : World} (F : Fr (fun k => B ≤ k) w w1) (f : Fr (fun k => k = b) w1 w2) (hb : B ≤ b) : Fr (fun k => B ≤ k) w w2 :=
  F.trans f fun k _ hk => by rw [hk]; exact hb
theorem fr_nil {B : Nat} {w w1 w2 : World} (F : Fr (fun k => B ≤ k) w w1) (f : Fr (fun _ => False) w1 w2) : Fr (fun k => B ≤ k) w w2 := F.trans f fun _ _ hk => hk.elim
theorem foot_not {b c : Nat} {r s : Option Nat} (h1 : b ≠ c) (h2 : s ≠ some b) (h3 : r ≠ some c) (h4 : ∀ k, r = some k → s ≠ some k) : ¬ Foot c s b ∧ ∀ k, r = some k → ¬ Foot c s k :=
  ⟨fun h => h.elim h1 h2, fun k hk h => h.elim (fun e => h3 (by rw [hk, e])) fun e => h4 k hk e⟩

section
variable {w : World} {b : Nat} {r : Option Nat} {m : Mm}
theorem burn_at (h : Mem w b r m) (hk : m.acts < 4611686018427387904) (p a : Int) (hp1 : -9223372036854775808 ≤ p) (hp2 : p ≤ 9223372036854775807) (ha1 : -9223372036854775808 ≤ a) (ha2 : a ≤ 9223372036854775807)
    {A : Option Addr} {c : Nat} (xs : List ByteArray) (hx : Rd w A (xs.map Value.string)) (hxA : ∀ k, blk A = some k → ¬ Foot b r k) (hlen : xs.length ≤ 140737488355328) (hc : xs.length ≤ c) {t : List UInt8} (ht : jn xs = t) (hT : t.length ≤ 140737488355328)
    {k : Nat} {m' : Mm} (hE : m.burnE p a t = k) (hM : m.burnM p a t = m') :
    Calls Tryz.prog 56 #[.pointer (some ⟨b, 0, none⟩), .int .i64 p, .int .i64 a, .slice A xs.length c] w fun e w' => e = .returned (.int .i64 (k : Nat)) ∧ Mem w' b r m' ∧ Fr (Foot b r) w w' := by
  subst ht hE hM
  exact burn_any h hk p a hp1 hp2 ha1 ha2 hx hxA hlen hc hT
theorem erase_at (h : Mem w b r m) (hk : m.acts < 4611686018427387904) (hw : ∀ p, m.worn p < 4611686018427387904) (p : Int) (hp1 : -9223372036854775808 ≤ p) (hp2 : p ≤ 9223372036854775807) {k : Nat} {m' : Mm} (hE : m.eraseE p = k) (hM : m.eraseM p = m') :
    Calls Tryz.prog 54 #[.pointer (some ⟨b, 0, none⟩), .int .i64 p] w fun e w' => e = .returned (.int .i64 (k : Nat)) ∧ Mem w' b r m' ∧ Fr (Foot b r) w w' := by
  subst hE hM
  exact erase_any h hk hw p hp1 hp2
theorem read_at (h : Mem w b r m) (p a n : Int) (hp1 : -9223372036854775808 ≤ p) (hp2 : p ≤ 9223372036854775807) (ha1 : -9223372036854775808 ≤ a) (ha2 : a ≤ 9223372036854775807) (hn1 : -9223372036854775808 ≤ n) (hn2 : n ≤ 9223372036854775807) {k : Nat} {t : List UInt8} (hE : m.spotE p a n = k) (hT : m.readT p a n = t) :
    Calls Tryz.prog 28 #[.pointer (some ⟨b, 0, none⟩), .int .i64 p, .int .i64 a, .int .i64 n] w fun e w' => e = .returned (.tuple #[.string ⟨t.toArray⟩, .int .i64 (k : Nat)]) ∧ w = w' := by
  subst hE hT
  exact read_any h p a n hp1 hp2 ha1 ha2 hn1 hn2
theorem bare_at (h : Mem w b r m) (p : Int) (h1 : -9223372036854775808 ≤ p) (h2 : p ≤ 9223372036854775807) {k : Nat} (hE : m.bare p = k) :
    Calls Tryz.prog 53 #[.pointer (some ⟨b, 0, none⟩), .int .i64 p] w fun e w' => e = .returned (.int .i64 (k : Nat)) ∧ w = w' := by
  subst hE
  exact bare_any h p h1 h2
theorem down_at (h : Mem w b r m) {d : Bool} (hE : m.down = d) : Calls Tryz.prog 15 #[.pointer (some ⟨b, 0, none⟩)] w fun e w' => e = .returned (.bool d) ∧ w = w' := by
  subst hE
  exact down_any h
end

theorem erase_bare {m : Mm} {p : Nat} (h : m.spotE (p : Int) 0 4096 = 0) (hp : m.part 4096 = 4096) : (m.eraseM (p : Int)).bare (p : Int) = 0 := by
  obtain ⟨_, q, a', n', e1, _, _, hq, _⟩ := spot_ok h
  rw [(eraseE_ok h).2]
  unfold Mm.bare
  rw [if_pos (by omega), bareN_zero]
  intro i hi
  have hr : (List.replicate (m.part 4096) (255 : UInt8))[i]? = some 255 := by rw [List.getElem?_replicate, if_pos (by omega)]
  have := layP_in m.pg p 0 (List.replicate (m.part 4096) 255) i 255 hr
  rw [Nat.zero_add] at this
  exact this

/-! the chapter's example, reckoned -/
namespace Ex
def m1 : Mm := Mm.new.burnM 0 5 [97, 98, 99]
def m2 : Mm := m1.arm fun i => cutAt [(1, 2)] i
def m3 : Mm := m2.burnM 3 0 [97, 98, 99]
def m4 : Mm := m3.burnM 3 3 [100, 101, 102, 103]
def n1 : Mm := m4.again.eraseM 0
theorem e1 : Mm.new.burnE 0 5 [97, 98, 99] = 0 := by kernel_rfl
theorem e2 : m1.bare 0 = 8 := by kernel_rfl
theorem e3 : m1.burnE 0 7 [120] = 15 := by kernel_rfl
theorem e4 : m2.burnE 3 0 [97, 98, 99] = 0 := by kernel_rfl
theorem e5 : m3.burnE 3 3 [100, 101, 102, 103] = 14 := by kernel_rfl
theorem e6 : m4.down = true := by kernel_rfl
theorem e7 : m4.again.spotE 3 0 6 = 0 := by kernel_rfl
theorem e8 : m4.again.readT 3 0 6 = [97, 98, 99, 100, 101, 255] := by kernel_rfl
theorem e9 : m4.again.eraseE 0 = 0 := by kernel_rfl
theorem e10 : n1.bare 0 = 0 := erase_bare (p := 0) (by kernel_rfl) (by kernel_rfl)
theorem e11 : n1.wornAt 0 = 1 := by kernel_rfl
theorem e12 : m4.wornAt 0 = 0 := by kernel_rfl
theorem e13 : m1.burnM 0 7 [120] = m1 := (burnE_burnt (by kernel_rfl) (by have : m1.burnt 0 7 1 = 1 := by kernel_rfl
                                                                          intro h; rw [show ([120] : List UInt8).length = 1 from rfl, this] at h; cases h)).2
theorem a1 : m1.acts = 1 := by kernel_rfl
theorem a3 : m3.acts = 2 := by kernel_rfl
theorem burn_worn (m : Mm) (p a : Int) (t : List UInt8) : (m.burnM p a t).worn = m.worn := by
  unfold Mm.burnM
  split <;> rfl
theorem a4 (p : Nat) : m4.worn p = 0 := by
  unfold m4 m3 m2 m1
  rw [burn_worn, burn_worn]
  show (Mm.new.burnM 0 5 [97, 98, 99]).worn p = 0
  rw [burn_worn]
  rfl
end Ex
end Go.Proofs.YtdoljggaoidljaaGreat

/- What a controller tells, as plain data. -/
import Derived.Test.YtfmhfngilimhjaaIml
namespace Go.Proofs.Ytfmhfngilimhjaa.Im
open Go.RowKit Li

/-- noughts for each element -/
def zeros (h : Te.Hs) : Te.St := ⟨List.replicate h.s 0, List.replicate h.p 0, List.replicate h.c 0, List.replicate h.g 0⟩
theorem okL_zeros (n : Nat) (m : Int) (hm : 0 ≤ m) : Te.okL (List.replicate n 0) n m = true := Te.okL_iff.2 ⟨List.length_replicate, fun x hx => by
  rw [(List.mem_replicate.1 hx).2]
  omega⟩
theorem zeros_ok (h : Te.Hs) : (zeros h).ok h = true := Te.St.ok_iff.2 ⟨okL_zeros _ _ (by decide), okL_zeros _ _ (by decide), okL_zeros _ _ (by decide), okL_zeros _ _ (by decide)⟩
theorem ok_length {h : Te.Hs} {x : Te.St} (hx : x.ok h = true) : x.bytes.length = 1 + h.s + h.p + h.c + h.g := by
  rw [Te.St.bytes_length]
  obtain ⟨a, b, c, d⟩ := Te.St.ok_iff.1 hx
  rw [(Te.okL_iff.1 a).1, (Te.okL_iff.1 b).1, (Te.okL_iff.1 c).1, (Te.okL_iff.1 d).1]
theorem fits_in {width : Nat} {n : Int} (h0 : 0 ≤ n) (h1 : n < 2 ^ (8 * width)) : Pk.fits width n = true := by
  unfold Pk.fits
  simp
  omega
theorem told_make {h : Te.Hs} {x : Te.St} (hx : x.ok h = true) (hb : 1 + h.s + h.p + h.c + h.g ≤ 1000) {j : Nat} (hj : j < 4) {n s : Int} (hn0 : 0 ≤ n) (hn : n < 65536) (hs0 : 0 ≤ s) (hs : s < 4294967296) : (makeL (j : Int) n s x.bytes).2 = 0 := by
  rw [make_fine (by
    unfold fitsB
    rw [fits_in (by omega) (by omega), fits_in hn0 (by omega), fits_in hs0 (by omega)]
    rfl) (by rw [ok_length hx]; exact hb)]
theorem told_read {h : Te.Hs} {x : Te.St} (hx : x.ok h = true) (hb : 1 + h.s + h.p + h.c + h.g ≤ 1000) {j : Nat} (hj : j < 4) {n s : Int} (hn0 : 0 ≤ n) (hn : n < 65536) (hs0 : 0 ≤ s) (hs : s < 4294967296) : readL (makeL (j : Int) n s x.bytes).1 = ⟨j, n, s, x.bytes, 0⟩ := read_make (told_make hx hb hj hn0 hn hs0 hs)
/-- the first telegram of a controller, right now -/
theorem hear_new {h : Te.Hs} {x : Te.St} (hx : x.ok h = true) (j : Nat) {age n : Int} (ha : 0 ≤ age) {s : Te.St} : (Km.mk (R.new (j : Int) age) s (-1)).hear h 100 ⟨j, n, 100, x.bytes, 0⟩ = (⟨({ R.new (j : Int) age with last := 100 } : R).add n, x, 100⟩, 0) := by
  have k : (R.new (j : Int) age).refuse 100 (j : Int) 100 = 0 := by
    show (if (j : Int) ≠ (j : Int) then 16 else if (100 : Int) < 100 then 19 else if age < 100 - 100 then 17 else if (100 : Int) ≤ -1 then 18 else 0) = 0
    rw [if_neg (by omega), if_neg (by omega), if_neg (by omega), if_neg (by omega)]
  have t := take_ok (r := R.new (j : Int) age) (now := 100) (t := ⟨j, n, 100, x.bytes, 0⟩) rfl k
  unfold Km.hear
  simp only
  rw [t]
  simp only
  rw [if_pos trivial, Te.rst_st hx, (add_last _ _).1]
  simp
theorem sub_len (l : List Te.Sec) (j : Int) : (Te.idx (Te.ptB j) 0 l).length ≤ (Te.idx (Te.inB j) 0 l).length := by
  rw [Te.idx_len, Te.idx_len, ← List.countP_eq_length_filter, ← List.countP_eq_length_filter]
  refine List.countP_mono_left fun x _ h => ?_
  unfold Te.ptB at h
  rw [Bool.and_eq_true] at h
  exact h.1
end Go.Proofs.Ytfmhfngilimhjaa.Im

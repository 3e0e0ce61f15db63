/- The contract of numbers: a list of numbers of one width is written one after the other, till one cannot be written. -/
import Derived.Test.YtmohefkingnknaaPdig
namespace Go.Proofs.Ytmohefkingnknaa.Pa
open Go.RowKit

/-- the widths of numbers -/
def Wid (width : Nat) : Prop := width = 1 ∨ width = 2 ∨ width = 4

theorem fits_yes {width : Nat} (hw : Wid width) {n : Int} (hf : Pk.fits width n = true) (w : World) :
    Calls Try.prog 69 #[.int .i64 (width : Int), .int .i64 n] w fun e w' => e = .returned (.bool true) ∧ w = w' := by
  rw [← hf]
  rcases hw with rfl | rfl | rfl
  · exact fits1 n w
  · exact fits2 n w
  · exact fits4 n w
theorem fits_no {width : Nat} (hw : Wid width) {n : Int} (hf : Pk.fits width n = false) (w : World) :
    Calls Try.prog 69 #[.int .i64 (width : Int), .int .i64 n] w fun e w' => e = .returned (.bool false) ∧ w = w' := by
  rw [← hf]
  rcases hw with rfl | rfl | rfl
  · exact fits1 n w
  · exact fits2 n w
  · exact fits4 n w
theorem digits_any {width : Nat} (hw : Wid width) {n : Int} (hf : Pk.fits width n = true) (w : World) :
    Calls Try.prog 72 #[.int .i64 (width : Int), .int .i64 n] w fun e w' => e = .returned (.slice (some ⟨w.heap.size, 0, none⟩) (Pk.digits width n).length (Pk.digits width n).length) ∧ w.alloc (.cells ((Pk.digits width n).map B).toArray 5) = w' := by
  rw [Pk.digits_length]
  unfold Pk.fits at hf
  simp only [Bool.and_eq_true, decide_eq_true_eq] at hf
  rcases hw with rfl | rfl | rfl
  · exact (digits1 n hf.1 (by have := hf.2; omega) w).mono fun _ _ ⟨h, k⟩ => ⟨h, k.symm⟩
  · exact (digits2 n hf.1 (by have := hf.2; omega) w).mono fun _ _ ⟨h, k⟩ => ⟨h, k.symm⟩
  · exact (digits4 n hf.1 (by have := hf.2; omega) w).mono fun _ _ ⟨h, k⟩ => ⟨h, k.symm⟩
/-- put, of the digits just laid -/
theorem put_digits {w : World} {b : Nat} {F : Option Nat} {s : Pk.S} (h : Wr w b F s) (t : List UInt8) (hbd : s.L ≤ 140737488355328 ∨ s.bs.length + t.length ≤ 140737488355328) :
    Calls Try.prog 71 #[.pointer (some ⟨b, 0, none⟩), .slice (some ⟨w.heap.size, 0, none⟩) t.length t.length] (w.alloc (.cells (t.map B).toArray 5)) fun e w' => e = .returned (.tuple #[]) ∧ ∃ F', Wr w' b F' (s.put t) ∧ Mv w w' b F F' := by
  have h' : Wr (w.alloc (.cells (t.map B).toArray 5)) b F s := h.fr ((Fr.refl (fun _ => False) w).alloc _) id (fun _ _ => id)
  refine (put_any h' _ t.length t (fun j u hu => ?_) hbd).mono fun e w' ⟨he, F', h1, h2⟩ => ⟨he, F', h1, Mv.after ((Fr.refl _ w).alloc _) h2⟩
  have e : (⟨w.heap.size, 0, none⟩ : Addr).add j = ⟨w.heap.size, j, none⟩ := by unfold Addr.add; split <;> simp_all
  rw [e, World.cell?_alloc_at _ _ _ _ rfl]
  simpa using hu

set_option maxHeartbeats 800000 in
theorem numbers_any {w : World} {b : Nat} {F : Option Nat} {s : Pk.S} (h : Wr w b F s) {width : Nat} (hw : Wid width) (A : Option Addr) (c : Nat) (l : List Int) (hl : Rd w A (l.map (Value.int .i64))) (hA : blk A ≠ some b) (hAF : ∀ k, F = some k → blk A ≠ some k)
    (hlen : l.length ≤ 140737488355328) (hbd : s.L ≤ 140737488355328 ∨ s.bs.length + width * l.length ≤ 140737488355328) :
    Calls Try.prog 62 #[.pointer (some ⟨b, 0, none⟩), .int .i64 (width : Int), .slice A l.length c] w fun e w' => e = .returned (.tuple #[]) ∧ ∃ F', Wr w' b F' (s.nums width l) ∧ Mv w w' b F F' := by
  rcases hn : l with _ | ⟨x, l'⟩
  · subst hn
    go_enter Try.func62, Try.ntmps62
    go_wp2
    refine wp_loop_rounds 1 ?_
    rw [rounds_succ]
    go_wp2
    go_end0
    exact ⟨rfl, F, h, Mv.refl _ _ _⟩
  · rw [← hn]
    obtain ⟨g, o, rfl, hg, hc⟩ := hl (by rw [hn]; simp)
    have hpos : 0 < l.length := by rw [hn]; simp
    clear hn hl x l'
    have hgb : g ≠ b := fun e => hA (by rw [e]; rfl)
    have hgF : F ≠ some g := fun e => hAF g e rfl
    go_enter Try.func62, Try.ntmps62
    go_wp2
    go_loopw [10] (fun i wr => ∃ k F', k ≤ l.length ∧ i = .int .i64 (k : Nat) ∧ Wr wr b F' (s.nums width (l.take k)) ∧ Mv w wr b F F') (fun i _ => l.length - (intOf i).toNat)
    case atStart => exact ⟨0, F, Nat.zero_le _, rfl, h, Mv.refl _ _ _⟩
    case round =>
      obtain ⟨k, F1, hk, rfl, hwr, hmv⟩ := hrel
      by_cases hlt : k < l.length
      · have hcell : wr.cell? ⟨g, o + k, none⟩ = some (.int .i64 l[k]) := by
          rw [hmv.1.cell (p := ⟨g, o + k, none⟩) hg (by rintro (e | e); exact hgb e; exact hgF e)]
          exact hc k _ (by rw [List.getElem?_map, List.getElem?_eq_getElem hlt]; rfl)
        have hsn : s.nums width (l.take (k + 1)) = (s.nums width (l.take k)).num width l[k] := by
          rw [List.take_succ_eq_append_getElem hlt, Pk.S.nums_append]; rfl
        have hrest : s.nums width l = ((s.nums width (l.take k)).num width l[k]).nums width (l.drop (k + 1)) := by
          rw [← hsn, ← Pk.S.nums_append, List.take_append_drop]
        have hL : (s.nums width (l.take k)).L = s.L := Pk.S.nums_L _ _ _
        have hbs : (s.nums width (l.take k)).bs.length ≤ s.bs.length + width * k := by
          have := (Pk.S.nums_len s width (l.take k)).2
          rwa [List.length_take, Nat.min_eq_left hk] at this
        have hsum : width * k + width ≤ width * l.length := by
          have := Nat.mul_le_mul_left width (show k + 1 ≤ l.length by omega)
          rwa [Nat.mul_add, Nat.mul_one] at this
        have hbd' : (s.nums width (l.take k)).L ≤ 140737488355328 ∨ (s.nums width (l.take k)).bs.length + width ≤ 140737488355328 := by
          rw [hL]; omega
        generalize s.nums width (l.take k) = sk at *
        have HS := Lib.hid hsn
        have HR := Lib.hid hrest
        clear hsn hrest hL hbs hsum hbd
        obtain ⟨x, hx⟩ : ∃ x, x = l[k] := ⟨_, rfl⟩
        rw [← hx] at hcell HS HR
        clear hx
        by_cases hf : Pk.fits width x = true
        · have K1 := fun W => fits_yes hw hf W
          have K2 := fun W => digits_any hw hf W
          have K3 := put_digits hwr (Pk.digits width x) (by rw [Pk.digits_length]; exact hbd')
          have hnum : sk.num width x = sk.put (Pk.digits width x) := by simp [Pk.S.num, hf]
          rw [← hnum] at K3
          clear hf hnum hbd'
          go_wp2_with (first | (go_at_call 69; refine (K1 _).mono ?_; rintro e w1 ⟨rfl, rfl⟩) | (go_at_call 72; refine (K2 _).mono ?_; rintro e w1 ⟨rfl, rfl⟩) | (go_at_call 71; refine K3.mono ?_; rintro e w2 ⟨rfl, F2, hw2, hm2⟩))
          go_roundw
          case rel => exact ⟨k + 1, F2, by omega, by go_num, by rw [HS.out]; exact hw2, hmv.trans hm2⟩
          case measure => simp [intOf]; omega
        · have hf' : Pk.fits width x = false := by simpa using hf
          have K1 := fun W => fits_no hw hf' W
          have K3 := fail_any hwr 32
          have hnum : s.nums width l = sk.fail 32 := by
            rw [HR.out]
            have : sk.num width x = sk.fail 32 := by simp [Pk.S.num, hf']
            rw [this]
            by_cases he : sk.e = 0
            · exact Pk.S.nums_bad (Pk.S.fail_e (by decide)) _ _
            · rw [Pk.S.fail_bad he]; exact Pk.S.nums_bad he _ _
          have HN := Lib.hid hnum
          clear hf hf' hnum hbd'
          go_wp2_with (first | (go_at_call 69; refine (K1 _).mono ?_; rintro e w1 ⟨rfl, rfl⟩) | (go_at_call 70; refine K3.mono ?_; rintro e w2 ⟨rfl, hw2, hm2⟩))
          refine bodyPost_ret (results_none rfl _ _ _) rfl ?_
          exact ⟨rfl, F1, by rw [HN.out]; exact hw2, hmv.trans hm2⟩
      · have hk' : k = l.length := by omega
        have HW : Wr wr b F1 (s.nums width l) := by
          have := hwr; rwa [hk', List.take_of_length_le (Nat.le_refl _)] at this
        clear hwr hk'
        go_wp2
        go_end0
        exact ⟨rfl, F1, HW, hmv⟩
end Go.Proofs.Ytmohefkingnknaa.Pa

/- The contracts of Text, Byte, Word and Long: lists of texts and of numbers. -/
import Derived.Test.YtjhggjbfbgfekaaNum
namespace Go.Proofs.Ytjhggjbfbgfekaa
open Go.RowKit

/-- 'append([]byte{x}, s...)': the byte, then the text's, in whatever row. -/
theorem run_append_byte_text {P : Program} (w : World) (t u ty e : TypeId) (i : TypeInfo) (z : Value) (ht : P.underlying t = some (.slice e)) (hu : P.underlying u = some .string) (hi : P.info? e = some i) (hz : i.zero = some z)
    (hsize : i.size = 1) (hby : i.bytes = 1) (h : Nat) (x : Value) (hh : w.heap[h]? = some (.cells #[x] e (0, 0))) (s : ByteArray) (hs : s.size ≤ 4294967296) :
    ∃ a c w1, (Builtin.append_ #[t, u] ty #[.slice (some ⟨h, 0, none⟩) 1 1, .string s]).run P w = .ok (.slice (some a) (1 + s.size) c) w1 ∧
      (∀ j v, (x :: byteCells s)[j]? = some v → w1.cell? (a.add j) = some v) ∧ Fr (fun _ => False) w w1 := by
  have src := Src.ofString (P := P) w hu s
  by_cases h0 : s.size = 0
  · have hr := run_append_room_src (P := P) w t u ty e i ht hi h 0 1 1 (.string s) s.size (byteCells s) (by rw [hsize]; exact src) (by omega) (by rw [byteCells_length]; omega) (by rw [byteCells_length]; omega)
    have hb : byteCells s = [] := List.eq_nil_of_length_eq_zero (by rw [byteCells_length]; exact h0)
    rw [hb] at hr ⊢
    refine ⟨_, _, _, hr, fun j v hv => ?_, Fr.refl _ w⟩
    have hj : j = 0 := by
      have := (List.getElem?_eq_some_iff.1 hv).1
      simpa using this
    subst hj
    have : (w.setCells h (0 + 1 * i.size) []).cell? ⟨h, 0, none⟩ = some x := cell_of_row w h 0 #[x] e (0, 0) hh
    simp only [List.getElem?_cons_zero, Option.some.injEq] at hv
    subst hv
    simpa [Addr.add] using this
  · have hold : (Builtin.firstCells i.size 1 (.slice (some ⟨h, 0, none⟩) 1 1)).run P w.drew = .ok [x].toArray w.drew :=
      run_firstCells_some w.drew i.size 1 ⟨h, 0, none⟩ 1 1 [x] (by simp [hsize]) (fun j v hv => by
        have hj : j = 0 := by
          have := (List.getElem?_eq_some_iff.1 hv).1
          simpa using this
        subst hj
        simp only [List.getElem?_cons_zero, Option.some.injEq] at hv
        subst hv
        have : w.cell? ⟨h, 0, none⟩ = some x := cell_of_row w h 0 #[x] e (0, 0) hh
        simpa [Addr.add] using this)
    have hr := run_append_grow_src (P := P) w t u ty e i z ht hi hz (some ⟨h, 0, none⟩) 1 1 [x] hold (.string s) s.size (byteCells s) (by rw [hsize]; exact src) (by omega) (by omega) (growslice_fits (by omega) (by rw [hby]; omega))
    refine ⟨_, _, _, hr, fun j v hv => ?_, ((Fr.refl _ w).drew).alloc _⟩
    have e1 : (⟨w.heap.size, 0, none⟩ : Addr).add j = ⟨w.heap.size, j, none⟩ := by unfold Addr.add; split <;> simp_all
    have hlt := (List.getElem?_eq_some_iff.1 hv).1
    rw [e1, World.cell?_alloc_at _ _ _ _ (show w.heap.size = w.drew.heap.size from rfl), Array.getElem?_append_left (by simpa using hlt)]
    simpa using hv

theorem wpList_append_byte_text {P : Program} (w : World) {ops : Array Oper} {rest : List Oper} {o : Oper} {a : Act} {Q : Exit → Act → World → Prop} (hgd : o.guard = none) (sl x : Operand) (t u : TypeId)
    (ho : o.op = .call { callee := .builtin .append, args := #[sl, x], argTypes := #[t, u] })
    (e : TypeId) (i : TypeInfo) (z : Value) (ht : P.underlying t = some (.slice e)) (hu : P.underlying u = some .string) (hi : P.info? e = some i) (hz : i.zero = some z)
    (hsize : i.size = 1) (hby : i.bytes = 1) (h : Nat) (y : Value) (hs : a.eval sl = .slice (some ⟨h, 0, none⟩) 1 1) (hh : w.heap[h]? = some (.cells #[y] e (0, 0))) (s : ByteArray) (hx : a.eval x = .string s) (hlen : s.size ≤ 4294967296)
    (hK : ∀ ad c w1, (∀ j v, (y :: byteCells s)[j]? = some v → w1.cell? (ad.add j) = some v) → Fr (fun _ => False) w w1 → wpList P ops Q rest (a.put o.dst (.slice (some ad) (1 + s.size) c)) w1) :
    wpList P ops Q (o :: rest) a w := by
  refine wpList_plain hgd fun K hK' => ?_
  obtain ⟨ad, c, w1, hr, h2, h3⟩ := run_append_byte_text (P := P) w t u o.type e i z ht hu hi hz hsize hby h y hh s hlen
  unfold Oper.wp execOp
  simp only [ho, resolve, invoke, builtin, Sem.run_bind, Sem.run_pure, Result.andThen_ok, List.map_toArray, List.map_cons, List.map_nil, hs, hx, hr]
  exact hK' _ _ (hK ad c w1 h2 h3)


/-- the bytes of a text -/
def bytesOf (s : ByteArray) : List UInt8 := s.data.toList
theorem bytesOf_length (s : ByteArray) : (bytesOf s).length = s.size := by unfold bytesOf; rw [Array.length_toList]; rfl

theorem byte_len (x : ByteArray) (h : x.size ≤ 255) : B (UInt8.ofNat (bytesOf x).length) = .int .u8 (x.size : Int) := by
  unfold B
  rw [bytesOf_length, UInt8.toNat_ofNat', Nat.mod_eq_of_lt (by omega)]
theorem byteCells_map (x : ByteArray) : byteCells x = (bytesOf x).map B := rfl

/-- put, of a text's length and bytes -/
theorem put_text {wr w2 : World} {o : Obj} {b : Nat} {F : Option Nat} {s : Pk.S} (h : Wr wr b F s) (x : ByteArray) (hf : x.size ≤ 255) {ad : Addr} (c2 : Nat)
    (hcs : ∀ j v, (Value.int .u8 (x.size : Int) :: byteCells x)[j]? = some v → w2.cell? (ad.add j) = some v) (hfr : Fr (fun _ => False) (wr.alloc o) w2)
    (hbd : s.L ≤ 140737488355328 ∨ s.bs.length + 256 ≤ 140737488355328) :
    Calls Try.prog 42 #[.pointer (some ⟨b, 0, none⟩), .slice (some ad) (1 + x.size) c2] w2 fun e w' => e = .returned (.tuple #[]) ∧ ∃ F', Wr w' b F' (s.text (bytesOf x)) ∧ Mv wr w' b F F' := by
  have htx : s.text (bytesOf x) = s.put (UInt8.ofNat (bytesOf x).length :: bytesOf x) := by
    unfold Pk.S.text; rw [if_pos (by rw [bytesOf_length]; exact hf)]
  have f0 : Fr (fun _ => False) wr w2 := ((Fr.refl (fun _ => False) wr).alloc o).trans hfr (fun _ _ h => h)
  have h' : Wr w2 b F s := h.fr f0 id (fun _ _ => id)
  have hl : (UInt8.ofNat (bytesOf x).length :: bytesOf x).length = 1 + x.size := by rw [List.length_cons, bytesOf_length]; omega
  have K := put_any h' ad c2 (UInt8.ofNat (bytesOf x).length :: bytesOf x) (fun j u hu => hcs j u (by rw [List.map_cons, byte_len x hf] at hu; exact hu)) (by rw [hl]; omega)
  rw [hl] at K
  rw [htx]
  exact K.mono fun e w' ⟨he, F', h1, h2⟩ => ⟨he, F', h1, Mv.after f0 h2⟩

set_option maxHeartbeats 800000 in
theorem texts_any {w : World} {b : Nat} {F : Option Nat} {s : Pk.S} (h : Wr w b F s) (A : Option Addr) (c : Nat) (l : List ByteArray) (hl : Rd w A (l.map Value.string)) (hA : blk A ≠ some b) (hAF : ∀ k, F = some k → blk A ≠ some k)
    (hlen : l.length ≤ 140737488355328) (hbd : s.L ≤ 140737488355328 ∨ s.bs.length + 256 * l.length ≤ 140737488355328) :
    Calls Try.prog 32 #[.pointer (some ⟨b, 0, none⟩), .slice A l.length c] w fun e w' => e = .returned (.tuple #[]) ∧ ∃ F', Wr w' b F' (s.texts (l.map bytesOf)) ∧ Mv w w' b F F' := by
  obtain ⟨i0, hi, hz0, hz1, hz2⟩ := info_parts Try.infoB
  rcases hn : l with _ | ⟨x, l'⟩
  · subst hn
    go_enter Try.func32, Try.ntmps32
    go_wp2
    refine wp_loop_rounds 1 ?_
    rw [rounds_succ]
    go_wp2
    go_end0
    exact ⟨rfl, F, h, Mv.refl _ _ _⟩
  · rw [← hn]
    obtain ⟨g, o, rfl, hg, hc⟩ := hl (by rw [hn]; simp)
    have hpos : 0 < l.length := by rw [hn]; simp
    clear hn hl x l'
    have hgb : g ≠ b := fun e => hA (by rw [e]; rfl)
    have hgF : F ≠ some g := fun e => hAF g e rfl
    go_enter Try.func32, Try.ntmps32
    go_wp2
    go_loopw [8] (fun i wr => ∃ k F', k ≤ l.length ∧ i = .int .i64 (k : Nat) ∧ Wr wr b F' (s.texts ((l.take k).map bytesOf)) ∧ Mv w wr b F F') (fun i _ => l.length - (intOf i).toNat)
    case atStart => exact ⟨0, F, Nat.zero_le _, rfl, h, Mv.refl _ _ _⟩
    case round =>
      obtain ⟨k, F1, hk, rfl, hwr, hmv⟩ := hrel
      by_cases hlt : k < l.length
      · have hcell : wr.cell? ⟨g, o + k, none⟩ = some (.string l[k]) := by
          rw [hmv.1.cell (p := ⟨g, o + k, none⟩) hg (by rintro (e | e); exact hgb e; exact hgF e)]
          exact hc k _ (by rw [List.getElem?_map, List.getElem?_eq_getElem hlt]; rfl)
        have hsn : s.texts ((l.take (k + 1)).map bytesOf) = (s.texts ((l.take k).map bytesOf)).text (bytesOf l[k]) := by
          rw [List.take_succ_eq_append_getElem hlt, List.map_append, Pk.S.texts_append]; rfl
        have hrest : s.texts (l.map bytesOf) = ((s.texts ((l.take k).map bytesOf)).text (bytesOf l[k])).texts ((l.drop (k + 1)).map bytesOf) := by
          rw [← hsn, ← Pk.S.texts_append, ← List.map_append, List.take_append_drop]
        have hL : (s.texts ((l.take k).map bytesOf)).L = s.L := Pk.S.texts_L _ _
        have hbs : (s.texts ((l.take k).map bytesOf)).bs.length ≤ s.bs.length + 256 * k := by
          have := Pk.S.texts_len s ((l.take k).map bytesOf)
          rwa [List.length_map, List.length_take, Nat.min_eq_left hk] at this
        have hbd' : (s.texts ((l.take k).map bytesOf)).L ≤ 140737488355328 ∨ (s.texts ((l.take k).map bytesOf)).bs.length + 256 ≤ 140737488355328 := by
          rw [hL]; omega
        generalize s.texts ((l.take k).map bytesOf) = sk at *
        have HS := Lib.hid hsn
        have HR := Lib.hid hrest
        clear hsn hrest hL hbs hbd
        obtain ⟨x, hx⟩ : ∃ x, x = l[k] := ⟨_, rfl⟩
        rw [← hx] at hcell HS HR
        clear hx
        by_cases hf : x.size ≤ 255
        · have hlen8 : (x.size : Int) ≤ 255 := by omega
          have h255 : decide ((255 : Int) < (x.size : Int)) = false := by simp; omega
          go_wp2_with (at_builtin; refine wpList_append_byte_text _ rfl (.tmp 21) (.tmp 22) 33 9 rfl 5 i0 (.int .u8 0) Try.underlying33 Try.underlying9 hi hz0 hz1 hz2 wr.heap.size (.int .u8 (x.size : Int)) rfl (heap_alloc_new _ _) x rfl (by omega) ?_)
          intro ad c2 w2 hcs hfr
          have K3 := put_text hwr x hf c2 hcs hfr hbd'
          clear hcs hfr hbd'
          go_wp2_with (go_at_call 42; refine K3.mono ?_; rintro e w3 ⟨rfl, F2, hw2, hm2⟩)
          go_roundw
          case rel => exact ⟨k + 1, F2, by omega, by go_num, by rw [HS.out]; exact hw2, hmv.trans hm2⟩
          case measure => simp [intOf]; omega
        · have h255 : decide ((255 : Int) < (x.size : Int)) = true := by simp; omega
          have K3 := fail_any hwr 32
          have hnum : s.texts (l.map bytesOf) = sk.fail 32 := by
            rw [HR.out]
            have : sk.text (bytesOf x) = sk.fail 32 := by unfold Pk.S.text; rw [if_neg (by rw [bytesOf_length]; exact hf)]
            rw [this]
            by_cases he : sk.e = 0
            · exact Pk.S.texts_bad (Pk.S.fail_e (by decide)) _
            · rw [Pk.S.fail_bad he]; exact Pk.S.texts_bad he _
          have HN := Lib.hid hnum
          clear hnum hbd'
          go_wp2_with (go_at_call 41; refine K3.mono ?_; rintro e w2 ⟨rfl, hw2, hm2⟩)
          refine bodyPost_ret (results_none rfl _ _ _) rfl ?_
          exact ⟨rfl, F1, by rw [HN.out]; exact hw2, hmv.trans hm2⟩
      · have hk' : k = l.length := by omega
        have HW : Wr wr b F1 (s.texts (l.map bytesOf)) := by
          have := hwr; rwa [hk', List.take_of_length_le (Nat.le_refl _)] at this
        clear hwr hk'
        go_wp2
        go_end0
        exact ⟨rfl, F1, HW, hmv⟩

theorem byte_any {w : World} {b : Nat} {F : Option Nat} {s : Pk.S} (h : Wr w b F s) (A : Option Addr) (c : Nat) (l : List Int) (hl : Rd w A (l.map (Value.int .i64))) (hA : blk A ≠ some b) (hAF : ∀ k, F = some k → blk A ≠ some k)
    (hlen : l.length ≤ 140737488355328) (hbd : s.L ≤ 140737488355328 ∨ s.bs.length + 1 * l.length ≤ 140737488355328) :
    Calls Try.prog 29 #[.pointer (some ⟨b, 0, none⟩), .slice A l.length c] w fun e w' => e = .returned (.tuple #[]) ∧ ∃ F', Wr w' b F' (s.nums 1 l) ∧ Mv w w' b F F' := by
  have K := numbers_any h (.inl rfl) A c l hl hA hAF hlen hbd
  clear hl hA hAF hbd
  go_enter Try.func29, Try.ntmps29
  go_wp2_with (go_at_call 40; refine K.mono ?_; rintro e w1 ⟨rfl, F', hw1, hm1⟩)
  go_end0
  exact ⟨rfl, F', hw1, hm1⟩
theorem word_any {w : World} {b : Nat} {F : Option Nat} {s : Pk.S} (h : Wr w b F s) (A : Option Addr) (c : Nat) (l : List Int) (hl : Rd w A (l.map (Value.int .i64))) (hA : blk A ≠ some b) (hAF : ∀ k, F = some k → blk A ≠ some k)
    (hlen : l.length ≤ 140737488355328) (hbd : s.L ≤ 140737488355328 ∨ s.bs.length + 2 * l.length ≤ 140737488355328) :
    Calls Try.prog 30 #[.pointer (some ⟨b, 0, none⟩), .slice A l.length c] w fun e w' => e = .returned (.tuple #[]) ∧ ∃ F', Wr w' b F' (s.nums 2 l) ∧ Mv w w' b F F' := by
  have K := numbers_any h (.inr (.inl rfl)) A c l hl hA hAF hlen hbd
  clear hl hA hAF hbd
  go_enter Try.func30, Try.ntmps30
  go_wp2_with (go_at_call 40; refine K.mono ?_; rintro e w1 ⟨rfl, F', hw1, hm1⟩)
  go_end0
  exact ⟨rfl, F', hw1, hm1⟩
theorem long_any {w : World} {b : Nat} {F : Option Nat} {s : Pk.S} (h : Wr w b F s) (A : Option Addr) (c : Nat) (l : List Int) (hl : Rd w A (l.map (Value.int .i64))) (hA : blk A ≠ some b) (hAF : ∀ k, F = some k → blk A ≠ some k)
    (hlen : l.length ≤ 140737488355328) (hbd : s.L ≤ 140737488355328 ∨ s.bs.length + 4 * l.length ≤ 140737488355328) :
    Calls Try.prog 31 #[.pointer (some ⟨b, 0, none⟩), .slice A l.length c] w fun e w' => e = .returned (.tuple #[]) ∧ ∃ F', Wr w' b F' (s.nums 4 l) ∧ Mv w w' b F F' := by
  have K := numbers_any h (.inr (.inr rfl)) A c l hl hA hAF hlen hbd
  clear hl hA hAF hbd
  go_enter Try.func31, Try.ntmps31
  go_wp2_with (go_at_call 40; refine K.mono ?_; rintro e w1 ⟨rfl, F', hw1, hm1⟩)
  go_end0
  exact ⟨rfl, F', hw1, hm1⟩
end Go.Proofs.Ytjhggjbfbgfekaa

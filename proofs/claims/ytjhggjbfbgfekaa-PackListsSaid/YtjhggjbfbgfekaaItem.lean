/- The contracts of the laws' own helpers: kind, write, model; of the document's Text. -/
import Derived.Test.YtjhggjbfbgfekaaMnum
namespace Go.Proofs.Ytjhggjbfbgfekaa
open Go.RowKit

/-- the document's put, of a text's length and bytes -/
theorem mput_text {wr w2 : World} {o : Obj} {b : Nat} {F : Option Nat} {s : Pk.S} (h : Wm wr b F s) (x : ByteArray) (hf : x.size ≤ 255) {ad : Addr} (c2 : Nat)
    (hcs : ∀ j v, (Value.int .u8 (x.size : Int) :: byteCells x)[j]? = some v → w2.cell? (ad.add j) = some v) (hfr : Fr (fun _ => False) (wr.alloc o) w2)
    (hbd : s.L ≤ 140737488355328 ∨ s.bs.length + 256 ≤ 140737488355328) :
    Calls Try.prog 43 #[.pointer (some ⟨b, 0, none⟩), .slice (some ad) (1 + x.size) c2, .bool true] w2 fun e w' => e = .returned (.tuple #[]) ∧ ∃ F', Wm w' b F' (s.text (bytesOf x)) ∧ Mv wr w' b F F' := by
  have htx : s.text (bytesOf x) = s.put (UInt8.ofNat (bytesOf x).length :: bytesOf x) := by
    unfold Pk.S.text; rw [if_pos (by rw [bytesOf_length]; exact hf)]
  have f0 : Fr (fun _ => False) wr w2 := ((Fr.refl (fun _ => False) wr).alloc o).trans hfr (fun _ _ h => h)
  have h' : Wm w2 b F s := h.fr f0 id (fun _ _ => id)
  have hl : (UInt8.ofNat (bytesOf x).length :: bytesOf x).length = 1 + x.size := by rw [List.length_cons, bytesOf_length]; omega
  have K := mput_yes h' ad c2 (UInt8.ofNat (bytesOf x).length :: bytesOf x) (fun j u hu => hcs j u (by rw [List.map_cons, byte_len x hf] at hu; exact hu)) (by rw [hl]; omega)
  rw [hl] at K
  rw [htx]
  exact K.mono fun e w' ⟨he, F', h1, h2⟩ => ⟨he, F', h1, Mv.after f0 h2⟩

set_option maxHeartbeats 400000 in
theorem mtext_any {w : World} {b : Nat} {F : Option Nat} {s : Pk.S} (h : Wm w b F s) (x : ByteArray) (hbd : s.L ≤ 140737488355328 ∨ s.bs.length + 256 ≤ 140737488355328) :
    Calls Try.prog 36 #[.pointer (some ⟨b, 0, none⟩), .string x] w fun e w' => e = .returned (.tuple #[]) ∧ ∃ F', Wm w' b F' (s.text (bytesOf x)) ∧ Mv w w' b F F' := by
  obtain ⟨i0, hi, hz0, hz1, hz2⟩ := info_parts Try.infoB
  by_cases hf : x.size ≤ 255
  · have hlen8 : (x.size : Int) ≤ 255 := by omega
    have h255 : decide ((255 : Int) < (x.size : Int)) = false := by simp; omega
    go_enter Try.func36, Try.ntmps36
    go_wp2_with (at_builtin; refine wpList_append_byte_text _ rfl (.tmp 13) (.tmp 14) 33 9 rfl 5 i0 (.int .u8 0) Try.underlying33 Try.underlying9 hi hz0 hz1 hz2 w.heap.size (.int .u8 (x.size : Int)) rfl (heap_alloc_new _ _) x rfl (by omega) ?_)
    intro ad c2 w2 hcs hfr
    have K3 := mput_text h x hf c2 hcs hfr hbd
    clear hcs hfr hbd
    go_wp2_with (go_at_call 43; refine K3.mono ?_; rintro e w3 ⟨rfl, F2, hw2, hm2⟩)
    go_end0
    exact ⟨rfl, F2, hw2, hm2⟩
  · have h255 : decide ((255 : Int) < (x.size : Int)) = true := by simp; omega
    have hs : s.text (bytesOf x) = s.fail 32 := by unfold Pk.S.text; rw [if_neg (by rw [bytesOf_length]; exact hf)]
    rw [hs]
    have K := mput_no h
    clear hs hbd
    go_enter Try.func36, Try.ntmps36
    go_wp2_with (go_at_call 43; refine K.mono ?_; rintro e w3 ⟨rfl, F2, hw2, hm2⟩)
    refine bodyPost_ret (results_none rfl _ _ _) rfl ?_
    exact ⟨rfl, F2, hw2, hm2⟩

/-- the kind of a thing -/
def kindOf (k : Int) : Int := wrap64 ((IntKind.u64.wrap k).tmod 4)
theorem kindOf_cases (k : Int) : kindOf k = 0 ∨ kindOf k = 1 ∨ kindOf k = 2 ∨ kindOf k = 3 := by
  have hu : 0 ≤ IntKind.u64.wrap k := wrap_u64_nonneg k
  unfold kindOf
  generalize IntKind.u64.wrap k = y at hu
  rw [Int.tmod_eq_emod_of_nonneg hu]
  have h2 := Int.emod_nonneg y (show (4 : Int) ≠ 0 by decide)
  have h3 := Int.emod_lt_of_pos y (show (0 : Int) < 4 by decide)
  generalize y % 4 = z at h2 h3
  unfold wrap64
  omega
theorem kind_any (k n : Int) (x : ByteArray) (w : World) :
    Calls Try.prog 19 #[.agg #[.int .i64 k, .int .i64 n, .string x]] w fun e w' => e = .returned (.int .i64 (kindOf k)) ∧ Fr (fun _ => False) w w' := by
  go_enter Try.func19, Try.ntmps19
  go_wp2
  go_ret
  exact ⟨rfl, (Fr.refl _ w).alloc _⟩
/-- a thing, written -/
def Pk.S.item (s : Pk.S) (k n : Int) (x : ByteArray) : Pk.S :=
  if kindOf k = 0 then s.num 1 n else if kindOf k = 1 then s.num 2 n else if kindOf k = 2 then s.num 4 n else s.text (bytesOf x)

theorem text_lit {w : World} {b : Nat} {F : Option Nat} {s : Pk.S} (h : Wr w b F s) (x : ByteArray) (hbd : s.L ≤ 140737488355328 ∨ s.bs.length + 256 ≤ 140737488355328) (_hx : x.size ≤ 140737488355328) :
    Calls Try.prog 32 #[.pointer (some ⟨b, 0, none⟩), .slice (some ⟨w.heap.size, 0, none⟩) 1 1] (w.alloc (.cells #[.string x] 9)) fun e w' => e = .returned (.tuple #[]) ∧ ∃ F', Wr w' b F' (s.text (bytesOf x)) ∧ Mv w w' b F F' := by
  have hne : ∀ k, k < w.heap.size → blk (some ⟨w.heap.size, 0, none⟩) ≠ some k := fun k hk e => by
    have : w.heap.size = k := by simpa [blk] using e
    omega
  refine (texts_any (h.fr ((Fr.refl (fun _ => False) w).alloc _) id (fun _ _ => id)) _ 1 [x] (Rd.one w (.string x) _) (hne b h.lt) (fun k hk => hne k (h.ltF k hk)) (by simp) (by simpa using hbd)).mono fun e w' ⟨he, F', h1, h2⟩ => ⟨he, F', h1, Mv.after ((Fr.refl _ w).alloc _) h2⟩

set_option maxHeartbeats 800000 in
theorem write_any {w : World} {b : Nat} {F : Option Nat} {s : Pk.S} (h : Wr w b F s) (k n : Int) (x : ByteArray) (hbd : s.L ≤ 140737488355328 ∨ s.bs.length + 256 ≤ 140737488355328) (hx : x.size ≤ 140737488355328) :
    Calls Try.prog 13 #[.pointer (some ⟨b, 0, none⟩), .agg #[.int .i64 k, .int .i64 n, .string x]] w fun e w' => e = .returned (.tuple #[]) ∧ ∃ F', Wr w' b F' (s.item k n x) ∧ Mv w w' b F F' := by
  have K := fun W => kind_any k n x W
  have hcs := kindOf_cases k
  unfold Pk.S.item
  generalize kindOf k = q at *
  rcases hcs with rfl | rfl | rfl | rfl
  · rw [if_pos rfl]
    go_enter Try.func13, Try.ntmps13
    go_wp2_with fail
    refine (K _).mono ?_
    rintro e w2 ⟨rfl, hf2⟩
    have hbox : Is w2 w.heap.size 29 #[.int .i64 k, .int .i64 n, .string x] := (Is.new w 29 #[.int .i64 k, .int .i64 n, .string x]).fr hf2 id
    have b1 : w2.cell? ⟨w.heap.size, 1, none⟩ = some (.int .i64 n) := (hbox.cell 1).trans rfl
    have b2 : w2.cell? ⟨w.heap.size, 2, none⟩ = some (.string x) := (hbox.cell 2).trans rfl
    have f2 : Fr (fun _ => False) w w2 := ((Fr.refl (fun _ => False) w).alloc _).trans hf2 (fun _ _ h => h)
    have h2 := h.fr f2 id (fun _ _ => id)
    clear hbox hf2 K h
    go_wp2_with fail
    refine (byte_one h2 n (by omega)).mono ?_
    rintro e w3 ⟨rfl, F3, h3, m3⟩
    go_wp2
    go_end0
    exact ⟨rfl, F3, h3, Mv.after f2 m3⟩
  · rw [if_neg (by decide), if_pos rfl]
    go_enter Try.func13, Try.ntmps13
    go_wp2_with fail
    refine (K _).mono ?_
    rintro e w2 ⟨rfl, hf2⟩
    have hbox : Is w2 w.heap.size 29 #[.int .i64 k, .int .i64 n, .string x] := (Is.new w 29 #[.int .i64 k, .int .i64 n, .string x]).fr hf2 id
    have b1 : w2.cell? ⟨w.heap.size, 1, none⟩ = some (.int .i64 n) := (hbox.cell 1).trans rfl
    have b2 : w2.cell? ⟨w.heap.size, 2, none⟩ = some (.string x) := (hbox.cell 2).trans rfl
    have f2 : Fr (fun _ => False) w w2 := ((Fr.refl (fun _ => False) w).alloc _).trans hf2 (fun _ _ h => h)
    have h2 := h.fr f2 id (fun _ _ => id)
    clear hbox hf2 K h
    go_wp2_with fail
    refine (word_one h2 n (by omega)).mono ?_
    rintro e w3 ⟨rfl, F3, h3, m3⟩
    go_wp2
    go_end0
    exact ⟨rfl, F3, h3, Mv.after f2 m3⟩
  · rw [if_neg (by decide), if_neg (by decide), if_pos rfl]
    go_enter Try.func13, Try.ntmps13
    go_wp2_with fail
    refine (K _).mono ?_
    rintro e w2 ⟨rfl, hf2⟩
    have hbox : Is w2 w.heap.size 29 #[.int .i64 k, .int .i64 n, .string x] := (Is.new w 29 #[.int .i64 k, .int .i64 n, .string x]).fr hf2 id
    have b1 : w2.cell? ⟨w.heap.size, 1, none⟩ = some (.int .i64 n) := (hbox.cell 1).trans rfl
    have b2 : w2.cell? ⟨w.heap.size, 2, none⟩ = some (.string x) := (hbox.cell 2).trans rfl
    have f2 : Fr (fun _ => False) w w2 := ((Fr.refl (fun _ => False) w).alloc _).trans hf2 (fun _ _ h => h)
    have h2 := h.fr f2 id (fun _ _ => id)
    clear hbox hf2 K h
    go_wp2_with fail
    refine (long_one h2 n (by omega)).mono ?_
    rintro e w3 ⟨rfl, F3, h3, m3⟩
    go_wp2
    go_end0
    exact ⟨rfl, F3, h3, Mv.after f2 m3⟩
  · rw [if_neg (by decide), if_neg (by decide), if_neg (by decide)]
    go_enter Try.func13, Try.ntmps13
    go_wp2_with fail
    refine (K _).mono ?_
    rintro e w2 ⟨rfl, hf2⟩
    have hbox : Is w2 w.heap.size 29 #[.int .i64 k, .int .i64 n, .string x] := (Is.new w 29 #[.int .i64 k, .int .i64 n, .string x]).fr hf2 id
    have b1 : w2.cell? ⟨w.heap.size, 1, none⟩ = some (.int .i64 n) := (hbox.cell 1).trans rfl
    have b2 : w2.cell? ⟨w.heap.size, 2, none⟩ = some (.string x) := (hbox.cell 2).trans rfl
    have f2 : Fr (fun _ => False) w w2 := ((Fr.refl (fun _ => False) w).alloc _).trans hf2 (fun _ _ h => h)
    have h2 := h.fr f2 id (fun _ _ => id)
    clear hbox hf2 K h
    go_wp2_with fail
    refine (text_lit h2 x hbd hx).mono ?_
    rintro e w3 ⟨rfl, F3, h3, m3⟩
    go_wp2
    go_end0
    exact ⟨rfl, F3, h3, Mv.after f2 m3⟩

set_option maxHeartbeats 800000 in
theorem model_any {w : World} {b : Nat} {F : Option Nat} {s : Pk.S} (h : Wm w b F s) (k n : Int) (x : ByteArray) (hbd : s.L ≤ 140737488355328 ∨ s.bs.length + 256 ≤ 140737488355328) :
    Calls Try.prog 14 #[.pointer (some ⟨b, 0, none⟩), .agg #[.int .i64 k, .int .i64 n, .string x]] w fun e w' => e = .returned (.tuple #[]) ∧ ∃ F', Wm w' b F' (s.item k n x) ∧ Mv w w' b F F' := by
  have K := fun W => kind_any k n x W
  have hcs := kindOf_cases k
  unfold Pk.S.item
  generalize kindOf k = q at *
  rcases hcs with rfl | rfl | rfl | rfl
  · rw [if_pos rfl]
    go_enter Try.func14, Try.ntmps14
    go_wp2_with fail
    refine (K _).mono ?_
    rintro e w2 ⟨rfl, hf2⟩
    have hbox : Is w2 w.heap.size 29 #[.int .i64 k, .int .i64 n, .string x] := (Is.new w 29 #[.int .i64 k, .int .i64 n, .string x]).fr hf2 id
    have b1 : w2.cell? ⟨w.heap.size, 1, none⟩ = some (.int .i64 n) := (hbox.cell 1).trans rfl
    have b2 : w2.cell? ⟨w.heap.size, 2, none⟩ = some (.string x) := (hbox.cell 2).trans rfl
    have f2 : Fr (fun _ => False) w w2 := ((Fr.refl (fun _ => False) w).alloc _).trans hf2 (fun _ _ h => h)
    have h2 := h.fr f2 id (fun _ _ => id)
    clear hbox hf2 K h
    go_wp2_with fail
    refine (mnum1 h2 n (by omega)).mono ?_
    rintro e w3 ⟨rfl, F3, h3, m3⟩
    go_wp2
    go_end0
    exact ⟨rfl, F3, h3, Mv.after f2 m3⟩
  · rw [if_neg (by decide), if_pos rfl]
    go_enter Try.func14, Try.ntmps14
    go_wp2_with fail
    refine (K _).mono ?_
    rintro e w2 ⟨rfl, hf2⟩
    have hbox : Is w2 w.heap.size 29 #[.int .i64 k, .int .i64 n, .string x] := (Is.new w 29 #[.int .i64 k, .int .i64 n, .string x]).fr hf2 id
    have b1 : w2.cell? ⟨w.heap.size, 1, none⟩ = some (.int .i64 n) := (hbox.cell 1).trans rfl
    have b2 : w2.cell? ⟨w.heap.size, 2, none⟩ = some (.string x) := (hbox.cell 2).trans rfl
    have f2 : Fr (fun _ => False) w w2 := ((Fr.refl (fun _ => False) w).alloc _).trans hf2 (fun _ _ h => h)
    have h2 := h.fr f2 id (fun _ _ => id)
    clear hbox hf2 K h
    go_wp2_with fail
    refine (mnum2 h2 n (by omega)).mono ?_
    rintro e w3 ⟨rfl, F3, h3, m3⟩
    go_wp2
    go_end0
    exact ⟨rfl, F3, h3, Mv.after f2 m3⟩
  · rw [if_neg (by decide), if_neg (by decide), if_pos rfl]
    go_enter Try.func14, Try.ntmps14
    go_wp2_with fail
    refine (K _).mono ?_
    rintro e w2 ⟨rfl, hf2⟩
    have hbox : Is w2 w.heap.size 29 #[.int .i64 k, .int .i64 n, .string x] := (Is.new w 29 #[.int .i64 k, .int .i64 n, .string x]).fr hf2 id
    have b1 : w2.cell? ⟨w.heap.size, 1, none⟩ = some (.int .i64 n) := (hbox.cell 1).trans rfl
    have b2 : w2.cell? ⟨w.heap.size, 2, none⟩ = some (.string x) := (hbox.cell 2).trans rfl
    have f2 : Fr (fun _ => False) w w2 := ((Fr.refl (fun _ => False) w).alloc _).trans hf2 (fun _ _ h => h)
    have h2 := h.fr f2 id (fun _ _ => id)
    clear hbox hf2 K h
    go_wp2_with fail
    refine (mnum4 h2 n (by omega)).mono ?_
    rintro e w3 ⟨rfl, F3, h3, m3⟩
    go_wp2
    go_end0
    exact ⟨rfl, F3, h3, Mv.after f2 m3⟩
  · rw [if_neg (by decide), if_neg (by decide), if_neg (by decide)]
    go_enter Try.func14, Try.ntmps14
    go_wp2_with fail
    refine (K _).mono ?_
    rintro e w2 ⟨rfl, hf2⟩
    have hbox : Is w2 w.heap.size 29 #[.int .i64 k, .int .i64 n, .string x] := (Is.new w 29 #[.int .i64 k, .int .i64 n, .string x]).fr hf2 id
    have b1 : w2.cell? ⟨w.heap.size, 1, none⟩ = some (.int .i64 n) := (hbox.cell 1).trans rfl
    have b2 : w2.cell? ⟨w.heap.size, 2, none⟩ = some (.string x) := (hbox.cell 2).trans rfl
    have f2 : Fr (fun _ => False) w w2 := ((Fr.refl (fun _ => False) w).alloc _).trans hf2 (fun _ _ h => h)
    have h2 := h.fr f2 id (fun _ _ => id)
    clear hbox hf2 K h
    go_wp2_with fail
    refine (mtext_any h2 x hbd).mono ?_
    rintro e w3 ⟨rfl, F3, h3, m3⟩
    go_wp2
    go_end0
    exact ⟨rfl, F3, h3, Mv.after f2 m3⟩
end Go.Proofs.Ytjhggjbfbgfekaa

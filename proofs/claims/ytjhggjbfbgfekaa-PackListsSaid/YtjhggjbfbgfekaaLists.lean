/- The walk of PackLists: calls that take many things write what one thing after the other would, and the lists stay. -/
import Derived.Test.YtjhggjbfbgfekaaApp
import Derived.Test.YtjhggjbfbgfekaaItem
namespace Go.Proofs.Ytjhggjbfbgfekaa
open Go.RowKit

theorem Try.infoI : (Try.prog.info? 3).map (fun i => (i.zero, i.size, i.bytes)) = some (some (.int .i64 0), 1, 8) := by kernel_rfl
theorem Try.infoS : (Try.prog.info? 9).map (fun i => (i.zero, i.size, i.bytes)) = some (some (.string .empty), 1, 16) := by kernel_rfl

theorem Rd.pre {w : World} {A : Option Addr} {xs ys : List Value} (h : Rd w A (xs ++ ys)) : Rd w A xs := fun h0 => by
  obtain ⟨b, o, hA, hb, hc⟩ := h (by rw [List.length_append]; omega)
  refine ⟨b, o, hA, hb, fun j u hu => hc j u ?_⟩
  rw [List.getElem?_append_left (List.getElem?_eq_some_iff.1 hu).1]
  exact hu
theorem texts_one {w : World} {b : Nat} {F : Option Nat} {s : Pk.S} (h : Wr w b F s) (x : ByteArray) (hbd : s.L ≤ 140737488355328 ∨ s.bs.length + 256 ≤ 140737488355328) :
    Calls Try.prog 32 #[.pointer (some ⟨b, 0, none⟩), .slice (some ⟨w.heap.size, 0, none⟩) 1 1] (w.alloc (.cells #[.string x] 9)) fun e w' => e = .returned (.tuple #[]) ∧ ∃ F', Wr w' b F' (s.text (bytesOf x)) ∧ Mv w w' b F F' := by
  have hne : ∀ k, k < w.heap.size → blk (some ⟨w.heap.size, 0, none⟩) ≠ some k := fun k hk e => by
    have : w.heap.size = k := by simpa [blk] using e
    omega
  refine (texts_any (h.fr ((Fr.refl (fun _ => False) w).alloc _) id (fun _ _ => id)) _ 1 [x] (Rd.one w (.string x) _) (hne b h.lt) (fun k hk => hne k (h.ltF k hk)) (by simp) (by simpa using hbd)).mono fun e w' ⟨he, F', h1, h2⟩ => ⟨he, F', h1, Mv.after ((Fr.refl _ w).alloc _) h2⟩
theorem Rd.at0 {w : World} {g : Nat} {xs : List Value} (h : Rd w (some ⟨g, 0, none⟩) xs) (j : Nat) (u : Value) (hu : xs[j]? = some u) : w.cell? ⟨g, j, none⟩ = some u := by
  obtain ⟨b, o, hA, hb, hc⟩ := h (by have := (List.getElem?_eq_some_iff.1 hu).1; omega)
  have k := hc j u hu
  injection hA with hA
  injection hA with h1 h2
  subst h1
  subst h2
  rw [Nat.zero_add] at k
  exact k
theorem ne_blk {g p : Nat} (h : g < p) : blk (some (⟨g, 0, none⟩ : Addr)) ≠ some p := fun e => by
  have : g = p := by simpa [blk] using e
  omega
theorem neF_blk {g p : Nat} (h : g < p) {F : Option Nat} (hF : ∀ k, F = some k → p ≤ k) : ∀ k, F = some k → blk (some (⟨g, 0, none⟩ : Addr)) ≠ some k := fun k hk e => by
  have h1 := hF k hk
  have h2 : g = k := by simpa [blk] using e
  omega
theorem World.ownsRow.cap_le {w : World} {e : TypeId} {A : Option Addr} {n c : Nat} {xs : List Value} (h : w.ownsRow 0 e 1 (.slice A n c) n xs) : n ≤ c ∧ c ≤ maxLen ∧ (0 < n → ∃ g, A = some ⟨g, 0, none⟩ ∧ g < w.heap.size) := by
  rcases h.2 with ⟨hv, h0⟩ | ⟨g, cap, cur, hv, _, hg, hnc, hm, _⟩
  · injection hv with h1 h2 h3
    exact ⟨by omega, by unfold maxLen; omega, fun h => by omega⟩
  · injection hv with h1 h2 h3
    subst h3
    exact ⟨hnc, hm, fun _ => ⟨g, h1, lt_of_block hg⟩⟩

set_option maxRecDepth 100000 in
set_option maxHeartbeats 4000000 in
theorem lists_walk (A : Option Addr) (c : Nat) (l : List Int) (A' : Option Addr) (c' : Nat) (l' : List ByteArray) (w : World) (hl : Rd w A (l.map (Value.int .i64))) (hl' : Rd w A' (l'.map Value.string))
    (hlen : l.length * 8 ≤ 140737488351232) (hlen' : l'.length * 16 ≤ 140737488351232) :
    Calls Try.prog 7 #[.slice A l.length c, .slice A' l'.length c'] w fun e w' => e = .returned (.bool true) ∧ Below w.heap.size w w' := by
  obtain ⟨i1, hi, hz0, hz1, hz2⟩ := info_parts Try.infoI
  obtain ⟨i2, hj, hy0, hy1, hy2⟩ := info_parts Try.infoS
  go_enter Try.func7, Try.ntmps7
  go_wp2_with fail
  refine (lives_any _).mono ?_
  rintro e w1 ⟨rfl, hf1⟩
  have o0 : (w1.alloc (.cells #[] 3)).ownsRow 0 3 1 (.slice (some ⟨w1.heap.size, 0, none⟩) 0 0) 0 [] := World.ownsRow_made w1 #[] 0 (Nat.zero_le _) (by unfold maxLen; omega) (by simp)
  have r0 : Rd (w1.alloc (.cells #[] 3)) A (l.map (Value.int .i64)) := (hl.fr hf1 (fun _ _ => id)).fr ((Fr.refl (fun _ => False) w1).alloc _) (fun _ _ => id)
  go_wp2_with (at_builtin; refine wpList_append_rd _ rfl (.tmp 23) (.tmp 24) 56 rfl 3 i1 (.int .i64 0) 8 Try.underlying56 hi hz0 hz1 hz2 rfl _ 0 [] rfl o0 A c l.length (l.map (Value.int .i64)) (by simp) rfl r0 (by intro u hu; obtain ⟨x, _, rfl⟩ := List.mem_map.1 hu; rfl) (by unfold maxLen; omega) (by omega) ?_)
  intro v1 w2 hown1 hg1 hat1
  obtain ⟨f2, q1⟩ := app_step (hf1.alloc _) hg1 hat1 (by have := hf1.size; omega) (fun k hk => by
    have h1 : w1.heap.size = k := by simpa [Value.ownBlock] using hk
    have h2 := hf1.size
    omega)
  obtain ⟨A1, c1, rfl⟩ := row_form hown1
  clear o0 r0 hg1 hat1 hf1
  go_wp2_with (at_builtin; refine wpList_append_rd _ rfl (.tmp 25) (.tmp 26) 56 rfl 3 i1 (.int .i64 0) 8 Try.underlying56 hi hz0 hz1 hz2 rfl _ l.length (l.map (Value.int .i64)) rfl (hown1.alloc _) _ 1 1 [.int .i64 77] rfl rfl (Rd.one w2 (.int .i64 77) 3) (by intro u hu; simp at hu; subst hu; rfl) (by unfold maxLen; omega) (by omega) ?_)
  intro v2 w3 hown2 hg2 hat2
  obtain ⟨f3, q2⟩ := app_step (f2.alloc _) hg2 hat2 (by have := f2.size; omega) q1
  obtain ⟨A2, c2, rfl⟩ := row_form hown2
  clear hown1 hg2 hat2 f2 q1
  have o3 : (w3.alloc (.cells #[] 9)).ownsRow 0 9 1 (.slice (some ⟨w3.heap.size, 0, none⟩) 0 0) 0 [] := World.ownsRow_made w3 #[] 0 (Nat.zero_le _) (by unfold maxLen; omega) (by simp)
  have r3 : Rd (w3.alloc (.cells #[] 9)) A' (l'.map Value.string) := (hl'.fr f3 (fun _ _ => id)).fr ((Fr.refl (fun _ => False) w3).alloc _) (fun _ _ => id)
  go_wp2_with (at_builtin; refine wpList_append_rd _ rfl (.tmp 28) (.tmp 29) 57 rfl 9 i2 (.string .empty) 16 Try.underlying57 hj hy0 hy1 hy2 rfl _ 0 [] rfl o3 A' c' l'.length (l'.map Value.string) (by simp) rfl r3 (by intro u hu; obtain ⟨x, _, rfl⟩ := List.mem_map.1 hu; rfl) (by unfold maxLen; omega) (by omega) ?_)
  intro v3 w4 hown3 hg3 hat3
  obtain ⟨f4, q3⟩ := app_step (w0 := w3) ((Fr.refl (fun _ => False) w3).alloc _) hg3 hat3 (by omega) (fun k hk => by
    have h1 : w3.heap.size = k := by simpa [Value.ownBlock] using hk
    omega)
  obtain ⟨A3, c3, rfl⟩ := row_form hown3
  clear o3 r3 hg3 hat3
  go_wp2_with (at_builtin; refine wpList_append_rd _ rfl (.tmp 30) (.tmp 31) 57 rfl 9 i2 (.string .empty) 16 Try.underlying57 hj hy0 hy1 hy2 rfl _ l'.length (l'.map Value.string) rfl (hown3.alloc _) _ 1 1 [.string ⟨#[115, 112, 97, 114, 101]⟩] rfl rfl (Rd.one w4 (.string ⟨#[115, 112, 97, 114, 101]⟩) 9) (by intro u hu; simp at hu; subst hu; rfl) (by unfold maxLen; omega) (by omega) ?_)
  intro v4 w5 hown4 hg4 hat4
  obtain ⟨f5, q4⟩ := app_step (f4.alloc _) hg4 hat4 (by have := f4.size; omega) q3
  obtain ⟨A4, c4, rfl⟩ := row_form hown4
  have ra : Rd w5 A2 (l.map (Value.int .i64) ++ [.int .i64 77]) := (own_rd hown2).fr f5 (fun _ _ => id)
  have rb : Rd w5 A4 (l'.map Value.string ++ [.string ⟨#[115, 112, 97, 114, 101]⟩]) := own_rd hown4
  have g5 : Fr (fun _ => False) w w5 := f3.trans f5 (fun _ _ h => h)
  obtain ⟨hla, hma, hga⟩ := World.ownsRow.cap_le hown2
  obtain ⟨hlb, hmb, hgb⟩ := World.ownsRow.cap_le hown4
  obtain ⟨ga, rfl, hga3⟩ := hga (by omega)
  obtain ⟨gb, rfl, hgb5⟩ := hgb (by omega)
  have hga5 : ga < w5.heap.size := Nat.lt_of_lt_of_le hga3 f5.size
  clear hga hgb hga3
  clear hown3 hg4 hat4 f4 q3 hown2 hown4 f5 f3 q2 q4
  have na : Rd w5 A (l.map (Value.int .i64)) := hl.fr g5 (fun _ _ => id)
  have nb : Rd w5 A' (l'.map Value.string) := hl'.fr g5 (fun _ _ => id)
  clear hl hl'
  go_wp2_with fail
  refine (new_calls 1024 _ (by decide)).mono ?_
  rintro e w6 ⟨rfl, hV, f6⟩
  go_wp2_with fail
  refine (new_calls 1024 _ (by decide)).mono ?_
  rintro e w7 ⟨rfl, hW, f7⟩
  have bX : w5.heap.size < w6.heap.size := hV.lt
  have hV7 := hV.fr f7 id (fun _ _ => id)
  have f57 := f6.trans f7 (fun _ _ h => h)
  clear hV f6 f7
  generalize w6.heap.size = p2 at *
  have sep : Sep w5.heap.size none p2 none := Sep.new (by omega) (by simp)
  have hmx : max (1024 : Int) 0 = 1024 := by omega
  rw [hmx] at hV7 hW
  clear hmx
  go_wp2_with fail
  go_wp2_with fail
  refine (long_any hV7 (some ⟨ga, 0, none⟩) c2 l (ra.pre.fr f57 (fun _ _ => id)) (ne_blk hga5) (neF_blk hga5 (fun _ h => by cases h)) (by omega) (.inl (by decide))).mono ?_
  rintro e w8 ⟨rfl, FV8, hV8, m8⟩
  have hW8 := hW.mv m8 sep.symm
  have sep8 := (sep.symm.mv m8 hW.lt hW.ltF).symm
  obtain ⟨f8, oV8⟩ := m8.own f57 (Nat.le_refl _) (fun _ h => by cases h)
  clear m8 hV7 hW sep f57
  go_wp2_with fail
  refine (word_any hV8 (some ⟨ga, 0, none⟩) c2 l (ra.pre.fr f8 (fun _ _ => id)) (ne_blk hga5) (neF_blk hga5 oV8) (by omega) (.inl (by rw [Pk.S.nums_L]; decide))).mono ?_
  rintro e w9 ⟨rfl, FV9, hV9, m9⟩
  have hW9 := hW8.mv m9 sep8.symm
  have sep9 := (sep8.symm.mv m9 hW8.lt hW8.ltF).symm
  obtain ⟨f9, oV9⟩ := m9.own f8 (Nat.le_refl _) oV8
  clear m9 hV8 hW8 sep8 f8 oV8
  go_wp2_with fail
  refine (byte_any hV9 (some ⟨ga, 0, none⟩) c2 l (ra.pre.fr f9 (fun _ _ => id)) (ne_blk hga5) (neF_blk hga5 oV9) (by omega) (.inl (by rw [Pk.S.nums_L, Pk.S.nums_L]; decide))).mono ?_
  rintro e w10 ⟨rfl, FV10, hV10, m10⟩
  have hW10 := hW9.mv m10 sep9.symm
  have sep10 := (sep9.symm.mv m10 hW9.lt hW9.ltF).symm
  obtain ⟨f10, oV10⟩ := m10.own f9 (Nat.le_refl _) oV9
  clear m10 hV9 hW9 sep9 f9 oV9
  go_wp2_with fail
  refine (texts_any hV10 (some ⟨gb, 0, none⟩) c4 l' (rb.pre.fr f10 (fun _ _ => id)) (ne_blk hgb5) (neF_blk hgb5 oV10) (by omega) (.inl (by rw [Pk.S.nums_L, Pk.S.nums_L, Pk.S.nums_L]; decide))).mono ?_
  rintro e w11 ⟨rfl, FV11, hV11, m11⟩
  have hW11 := hW10.mv m11 sep10.symm
  have sep11 := (sep10.symm.mv m11 hW10.lt hW10.ltF).symm
  obtain ⟨f11, oV11⟩ := m11.own f10 (Nat.le_refl _) oV10
  clear m11 hV10 hW10 sep10 f10 oV10
  obtain ⟨v4, hv4⟩ : ∃ v4, v4 = ((((⟨1024, [], 0⟩ : Pk.S).nums 4 l).nums 2 l).nums 1 l).texts (l'.map bytesOf) := ⟨_, rfl⟩
  rw [← hv4] at hV11
  have HV4 := Lib.hid hv4
  clear hv4
  go_wp2_with fail
  go_loopw [61] (fun i wr => ∃ k F, k ≤ l.length ∧ i = .int .i64 (k : Nat) ∧ Wr wr w5.heap.size FV11 v4 ∧ Wr wr p2 F ((⟨1024, [], 0⟩ : Pk.S).nums 4 (l.take k)) ∧ Sep w5.heap.size FV11 p2 F ∧ Fr (fun _ => False) w5 wr ∧ ∀ g, F = some g → w5.heap.size ≤ g) (fun i _ => l.length - (intOf i).toNat)
  case atStart => exact ⟨0, none, Nat.zero_le _, rfl, hV11, hW11, sep11, f11, (fun _ h => by cases h)⟩
  case round =>
    obtain ⟨k, F, hk, rfl, hV1, hW1, s1, f1, o1⟩ := hrel
    by_cases hlt : k < l.length
    · obtain ⟨gg, o, rfl, hgl, hc⟩ := na (by simp; omega)
      have c0 := (f1.cell (p := ⟨gg, o + k, none⟩) hgl id).trans (hc k (.int .i64 l[k]) (by rw [List.getElem?_map, List.getElem?_eq_getElem hlt]; rfl))
      have hsn : (⟨1024, [], 0⟩ : Pk.S).nums 4 (l.take (k + 1)) = ((⟨1024, [], 0⟩ : Pk.S).nums 4 (l.take k)).num 4 l[k] := by rw [List.take_succ_eq_append_getElem hlt, Pk.S.nums_append]; rfl
      have HS := Lib.hid hsn
      have hW2 := hW1
      have K1 := long_one hW2 l[k] (.inl (by rw [Pk.S.nums_L]; decide))
      rw [← hsn] at K1
      clear hsn hc hW1
      generalize l[k] = x at *
      go_wp2_with fail
      refine K1.mono ?_
      rintro e z1 ⟨rfl, F3, hW3, m3⟩
      have hV3 := hV1.mv m3 s1
      have s3 := s1.mv m3 hV1.lt hV1.ltF
      obtain ⟨f3, o3⟩ := m3.own f1 (by omega) o1
      clear K1 hW2 hV1 m3 s1 f1 c0
      go_wp2
      go_roundw
      case rel => exact ⟨k + 1, F3, by omega, by go_num, hV3, hW3, s3, f3, o3⟩
      case measure => simp [intOf]; omega
    · have hkl : k = l.length := by omega
      rw [hkl, List.take_of_length_le (Nat.le_refl _)] at hW1
      clear hkl
      go_wp2_with fail
      clear hk hlt
      go_loopw [72] (fun i wr => ∃ k F, k ≤ l.length ∧ i = .int .i64 (k : Nat) ∧ Wr wr w5.heap.size FV11 v4 ∧ Wr wr p2 F (((⟨1024, [], 0⟩ : Pk.S).nums 4 l).nums 2 (l.take k)) ∧ Sep w5.heap.size FV11 p2 F ∧ Fr (fun _ => False) w5 wr ∧ ∀ g, F = some g → w5.heap.size ≤ g) (fun i _ => l.length - (intOf i).toNat)
      case atStart => exact ⟨0, F, Nat.zero_le _, rfl, hV1, hW1, s1, f1, o1⟩
      case round =>
        obtain ⟨k, F, hk, rfl, hV1, hW1, s1, f1, o1⟩ := hrel
        by_cases hlt : k < l.length
        · obtain ⟨gg, o, rfl, hgl, hc⟩ := na (by simp; omega)
          have c0 := (f1.cell (p := ⟨gg, o + k, none⟩) hgl id).trans (hc k (.int .i64 l[k]) (by rw [List.getElem?_map, List.getElem?_eq_getElem hlt]; rfl))
          have hsn : ((⟨1024, [], 0⟩ : Pk.S).nums 4 l).nums 2 (l.take (k + 1)) = (((⟨1024, [], 0⟩ : Pk.S).nums 4 l).nums 2 (l.take k)).num 2 l[k] := by rw [List.take_succ_eq_append_getElem hlt, Pk.S.nums_append]; rfl
          have HS := Lib.hid hsn
          have hW2 := hW1
          have K1 := word_one hW2 l[k] (.inl (by rw [Pk.S.nums_L, Pk.S.nums_L]; decide))
          rw [← hsn] at K1
          clear hsn hc hW1
          generalize l[k] = x at *
          go_wp2_with fail
          refine K1.mono ?_
          rintro e z1 ⟨rfl, F3, hW3, m3⟩
          have hV3 := hV1.mv m3 s1
          have s3 := s1.mv m3 hV1.lt hV1.ltF
          obtain ⟨f3, o3⟩ := m3.own f1 (by omega) o1
          clear K1 hW2 hV1 m3 s1 f1 c0
          go_wp2
          go_roundw
          case rel => exact ⟨k + 1, F3, by omega, by go_num, hV3, hW3, s3, f3, o3⟩
          case measure => simp [intOf]; omega
        · have hkl : k = l.length := by omega
          rw [hkl, List.take_of_length_le (Nat.le_refl _)] at hW1
          clear hkl
          go_wp2_with fail
          clear hk hlt
          go_loopw [83] (fun i wr => ∃ k F, k ≤ l.length ∧ i = .int .i64 (k : Nat) ∧ Wr wr w5.heap.size FV11 v4 ∧ Wr wr p2 F ((((⟨1024, [], 0⟩ : Pk.S).nums 4 l).nums 2 l).nums 1 (l.take k)) ∧ Sep w5.heap.size FV11 p2 F ∧ Fr (fun _ => False) w5 wr ∧ ∀ g, F = some g → w5.heap.size ≤ g) (fun i _ => l.length - (intOf i).toNat)
          case atStart => exact ⟨0, F, Nat.zero_le _, rfl, hV1, hW1, s1, f1, o1⟩
          case round =>
            obtain ⟨k, F, hk, rfl, hV1, hW1, s1, f1, o1⟩ := hrel
            by_cases hlt : k < l.length
            · obtain ⟨gg, o, rfl, hgl, hc⟩ := na (by simp; omega)
              have c0 := (f1.cell (p := ⟨gg, o + k, none⟩) hgl id).trans (hc k (.int .i64 l[k]) (by rw [List.getElem?_map, List.getElem?_eq_getElem hlt]; rfl))
              have hsn : (((⟨1024, [], 0⟩ : Pk.S).nums 4 l).nums 2 l).nums 1 (l.take (k + 1)) = ((((⟨1024, [], 0⟩ : Pk.S).nums 4 l).nums 2 l).nums 1 (l.take k)).num 1 l[k] := by rw [List.take_succ_eq_append_getElem hlt, Pk.S.nums_append]; rfl
              have HS := Lib.hid hsn
              have hW2 := hW1
              have K1 := byte_one hW2 l[k] (.inl (by rw [Pk.S.nums_L, Pk.S.nums_L, Pk.S.nums_L]; decide))
              rw [← hsn] at K1
              clear hsn hc hW1
              generalize l[k] = x at *
              go_wp2_with fail
              refine K1.mono ?_
              rintro e z1 ⟨rfl, F3, hW3, m3⟩
              have hV3 := hV1.mv m3 s1
              have s3 := s1.mv m3 hV1.lt hV1.ltF
              obtain ⟨f3, o3⟩ := m3.own f1 (by omega) o1
              clear K1 hW2 hV1 m3 s1 f1 c0
              go_wp2
              go_roundw
              case rel => exact ⟨k + 1, F3, by omega, by go_num, hV3, hW3, s3, f3, o3⟩
              case measure => simp [intOf]; omega
            · have hkl : k = l.length := by omega
              rw [hkl, List.take_of_length_le (Nat.le_refl _)] at hW1
              clear hkl
              go_wp2_with fail
              clear hk hlt
              go_loopw [94] (fun i wr => ∃ k F, k ≤ l'.length ∧ i = .int .i64 (k : Nat) ∧ Wr wr w5.heap.size FV11 v4 ∧ Wr wr p2 F (((((⟨1024, [], 0⟩ : Pk.S).nums 4 l).nums 2 l).nums 1 l).texts ((l'.take k).map bytesOf)) ∧ Sep w5.heap.size FV11 p2 F ∧ Fr (fun _ => False) w5 wr ∧ ∀ g, F = some g → w5.heap.size ≤ g) (fun i _ => l'.length - (intOf i).toNat)
              case atStart => exact ⟨0, F, Nat.zero_le _, rfl, hV1, hW1, s1, f1, o1⟩
              case round =>
                obtain ⟨k, F, hk, rfl, hV1, hW1, s1, f1, o1⟩ := hrel
                by_cases hlt : k < l'.length
                · obtain ⟨gg, o, rfl, hgl, hc⟩ := nb (by simp; omega)
                  have c0 := (f1.cell (p := ⟨gg, o + k, none⟩) hgl id).trans (hc k (.string l'[k]) (by rw [List.getElem?_map, List.getElem?_eq_getElem hlt]; rfl))
                  have hsn : ((((⟨1024, [], 0⟩ : Pk.S).nums 4 l).nums 2 l).nums 1 l).texts ((l'.take (k + 1)).map bytesOf) = (((((⟨1024, [], 0⟩ : Pk.S).nums 4 l).nums 2 l).nums 1 l).texts ((l'.take k).map bytesOf)).text (bytesOf l'[k]) := by rw [List.take_succ_eq_append_getElem hlt, List.map_append, Pk.S.texts_append]; rfl
                  have HS := Lib.hid hsn
                  have hW2 := hW1
                  have K1 := texts_one hW2 l'[k] (.inl (by rw [Pk.S.texts_L, Pk.S.nums_L, Pk.S.nums_L, Pk.S.nums_L]; decide))
                  rw [← hsn] at K1
                  clear hsn hc hW1
                  generalize l'[k] = x at *
                  go_wp2_with fail
                  refine K1.mono ?_
                  rintro e z1 ⟨rfl, F3, hW3, m3⟩
                  have hV3 := hV1.mv m3 s1
                  have s3 := s1.mv m3 hV1.lt hV1.ltF
                  obtain ⟨f3, o3⟩ := m3.own f1 (by omega) o1
                  clear K1 hW2 hV1 m3 s1 f1 c0
                  go_wp2
                  go_roundw
                  case rel => exact ⟨k + 1, F3, by omega, by go_num, hV3, hW3, s3, f3, o3⟩
                  case measure => simp [intOf]; omega
                · have hkl : k = l'.length := by omega
                  rw [hkl, List.take_of_length_le (Nat.le_refl _)] at hW1
                  clear hkl
                  go_wp2_with fail
                  clear hk hlt
                  rw [← HV4.out] at hW1
                  go_wp2_with fail
                  refine (done_any hV1).mono ?_
                  rintro e y1 ⟨rfl, n1, rfl⟩
                  have hW2 := hW1.drewN n1
                  have f2 := f1.drewN n1
                  clear hV1 hW1 f1
                  generalize wr.drewN n1 = y1 at *
                  go_wp2_with fail
                  refine (done_any hW2).mono ?_
                  rintro e y2 ⟨rfl, n2, rfl⟩
                  have f3 := f2.drewN n2
                  clear hW2 f2
                  generalize y1.drewN n2 = y2 at *
                  go_wp2_with fail
                  refine (sameints_any (ra.pre.fr f3 (fun _ _ => id)) (na.fr f3 (fun _ _ => id)) (by omega)).mono ?_
                  rintro e y3 ⟨rfl, f4⟩
                  have f5 := f3.trans f4 (fun _ _ h => h)
                  clear f3 f4
                  go_wp2_with fail
                  refine (sametexts_any (rb.pre.fr f5 (fun _ _ => id)) (nb.fr f5 (fun _ _ => id)) (by omega)).mono ?_
                  rintro e y4 ⟨rfl, f6⟩
                  have f7 := f5.trans f6 (fun _ _ h => h)
                  clear f5 f6
                  have ca : y4.cell? ⟨ga, l.length, none⟩ = some (.int .i64 77) := by
                    rw [f7.cell (p := ⟨ga, l.length, none⟩) hga5 id]
                    have k := Rd.at0 ra l.length (.int .i64 77) (by rw [List.getElem?_append_right (by simp), List.length_map]; simp)
                    exact k
                  have cb : y4.cell? ⟨gb, l'.length, none⟩ = some (.string ⟨#[115, 112, 97, 114, 101]⟩) := by
                    rw [f7.cell (p := ⟨gb, l'.length, none⟩) hgb5 id]
                    have k := Rd.at0 rb l'.length (.string ⟨#[115, 112, 97, 114, 101]⟩) (by rw [List.getElem?_append_right (by simp), List.length_map]; simp)
                    exact k
                  clear ra rb na nb
                  go_wp2
                  go_ret
                  exact ⟨rfl, (g5.trans f7 (fun _ _ h => h)).toBelow0⟩
end Go.Proofs.Ytjhggjbfbgfekaa

import Derived.Test.YtdoljggaoidljaaRows
import Derived.ProofKit
import Derived.OpenShut
import Derived.Carry
import Derived.Below
import Derived.SizedLaws
import Derived.Test.YtdoljggaoidljaaTop
import Derived.Deep.LoopGhost
import Derived.Deep.CutRange
import Derived.Laws.BitsAllLaws
/- How a law's statement follows from its walk: a call that answers true, and that leaves all that was there as it was, meets the law's specification, whatever its arguments are. -/
namespace Go.Proofs.Ytdoljggaoidljaa
open Go.ChangeShapes Go.WideShapes Go.ChangeAt Go.RowKit

theorem Try.laidOut : laidOutB Try.prog = true := by kernel_rfl
theorem Try.own : ownKnob Try.prog.godebug = none := by kernel_rfl

theorem args_stay {H : Type} {enc : TypeId × Value → H} {P : Program} (hl : laidOutB P = true) {W W' : World} (hb : Below W.heap.size W W') :
    ∀ {ts : List TypeId} {vs : List Value} {ds : List (DataW H)} {ps : List MemPlace}, (∀ t ∈ ts, P.readableRec t = true ∧ t < P.types.size) →
      DataW.TrodAll enc P W 0 (fun _ => true) true ts vs ds ps → (∀ x ∈ ps, x.block < W.heap.size) → DataW.TrodAll enc P W' 0 (fun b => decide (b < W.heap.size)) true ts vs ds ps
  | [], _, _, _, _, h, _ => by
    obtain ⟨rfl, rfl, rfl⟩ := trodAll_nil h
    exact trodAll_mk0
  | t :: ts, _, _, _, hr, h, hlt => by
    obtain ⟨v, vs, d, ds, p, ps, rfl, rfl, rfl, h0, r0⟩ := trodAll_cons h
    exact trodAll_cons_mk (Below.trod hl (hr t (by simp)).1 (hr t (by simp)).2 h0 hb (fun x hx => hlt x (by simp [hx])))
      (args_stay hl hb (fun u hu => hr u (by simp [hu])) r0 (fun x hx => hlt x (by simp [hx])))

/-- The law's specification is met. -/
theorem law_post {H : Type} {enc : TypeId × Value → H} {f : Func} {s : ChangeSpec} {W W' : World} {args : Array Value} {ds gs : List (DataW H)} {before : List MemPlace}
    (hW : DataW.Whole enc Try.prog f.params.toList s.vars false W args.toList ds gs before) (hv : s.vars = []) (hres : f.resultTypes = #[4])
    (hts : ∀ t ∈ f.params.toList, Try.prog.readableRec t = true ∧ t < Try.prog.types.size)
    (hfn : (s.fn H ds).results = [.lit (.bool true)]) (hargs : (s.fn H ds).args = ds) (hvars : (s.fn H ds).vars = []) (hb : Below W.heap.size W W') :
    ∃ v, Ending.returned (.bool true) = .returned v ∧ s.post enc Try.prog f false true false false W args v W' := by
  have hlt : ∀ p ∈ before, p.block < W.heap.size := fun p hp => hW.lt p hp
  have hW' := hW
  obtain ⟨p, q, hA, hV, rfl, hfz, hnd⟩ := hW
  rw [hv] at hV
  obtain ⟨rfl, rfl⟩ := trodVars_none hV
  refine ⟨_, rfl, ds, [], _, [], p, [], hW', ?_, ?_, ?_, hb.frame _, fun h => by cases h⟩
  · rw [List.append_nil, hfn, hres]
    exact trodAll_cons_mk (shut_bool Try.underlying4 _) trodAll_mk0
  · rw [List.append_nil, hargs]
    exact args_stay Try.laidOut hb hts hA (fun x hx => hlt x (by simp [hx]))
  · rw [List.append_nil, hv, hvars]
    rfl
end Go.Proofs.Ytdoljggaoidljaa
/- The walk of JournalSafest. -/
namespace Go.Proofs.Ytdoljggaoidljaa
open Go.RowKit

namespace Sf
theorem umod (a : Int) (m : Nat) (h0 : 0 < m) (h : m ≤ 4611686018427387904) : ∃ n : Nat, wrap64 ((IntKind.u64.wrap a).tmod (m : Int)) = n ∧ n < m := by
  have hw : 0 ≤ IntKind.u64.wrap a := by rw [IntKind.wrap_u64]; omega
  rw [Int.tmod_eq_emod_of_nonneg hw]
  have h1 := Int.emod_nonneg (IntKind.u64.wrap a) (b := (m : Int)) (by omega)
  have h2 := Int.emod_lt_of_pos (IntKind.u64.wrap a) (b := (m : Int)) (by omega)
  generalize IntKind.u64.wrap a % (m : Int) = x at *
  rw [IntWalk.wrap64_in _ ⟨by omega, by omega⟩]
  exact ⟨x.toNat, by omega, by omega⟩

/-- 'make([]byte, n)' -/
theorem mk_bytes0 (n : Nat) (hn : n ≤ 140737488355328) (W : World) : (Instr.makeSlice 42 (.int .i64 (n : Int)) (.int .i64 (n : Int))).run Try.prog W = .ok (.slice (some ⟨W.heap.size, 0, none⟩) n n) (W.alloc (.cells (List.replicate n (Value.int .u8 0)).toArray 5)) := by
  obtain ⟨i0, hi, hz0, hz1, hz2⟩ := info_parts Try.infoB
  have h := run_make (P := Try.prog) W 42 5 i0 (.int .u8 0) Try.underlying42 hi hz0 .i64 .i64 n n (by omega) (by omega) (by rw [hz2]; omega) (by omega)
  have e : madeCells (Value.int .u8 0).cells n = (List.replicate n (Value.int .u8 0)).toArray := by
    apply Array.ext'
    rw [← toList_madeCells_one]
    rfl
  simpa [hz1, e] using h
theorem mk_bytes (n : Nat) (hn : n ≤ 140737488355328) (W : World) : (Instr.makeSlice 42 (.int .i64 (n : Int)) (.int .i64 (n : Int))).run Try.prog W = .ok (.slice (some ⟨W.heap.size, 0, none⟩) n n) (W.alloc (.cells (Array.replicate n (Value.int .u8 0)) 5)) := by
  have h := mk_bytes0 n hn W
  rw [List.toArray_replicate] at h
  exact h
/-- .. as a text -/
theorem zeros_text (n : Nat) (W : World) : (convert 42 9 (.slice (some ⟨W.heap.size, 0, none⟩) n n)).run Try.prog (W.alloc (.cells (Array.replicate n (Value.int .u8 0)) 5)) = .ok (.string ⟨(List.replicate n 0).toArray⟩) (W.alloc (.cells (Array.replicate n (Value.int .u8 0)) 5)) := by
  have K := text_of (w := W.alloc (.cells (Array.replicate n (Value.int .u8 0)) 5)) (b := W.heap.size) (o := 0) (n := n) (c := n) (f := fun _ => 0) (fun i hi => by
    have := (Is.new W 5 (Array.replicate n (Value.int .u8 0))).cell (0 + i)
    rw [this, Nat.zero_add]
    simp [hi, B])
  have e : cutP (fun _ => (0 : UInt8)) 0 n = List.replicate n 0 := by
    unfold cutP
    simp [List.map_const']
  rw [e] at K
  exact K

end Sf
/-- a journal whose last safety state is t, and which holds at most n records -/
structure Lst (w : World) (jb mb : Nat) (n : Nat) (t : List UInt8) : Prop where
  ex : ∃ all, Live w jb mb none n all ∧ Jo.lastSafe none all = some t
theorem Lst.fr {w w' : World} {jb mb n : Nat} {t : List UInt8} (h : Lst w jb mb n t) (f : Fr (fun _ => False) w w') : Lst w' jb mb n t := by
  obtain ⟨all, a, b⟩ := h.ex
  exact ⟨all, a.fr f, b⟩
/-- a memory whose last safety state is t, and which holds at most n records -/
def Mst (w : World) (b n : Nat) (t : List UInt8) : Prop := ∃ m all, Mem w b none m ∧ Holds m n all ∧ Jo.lastSafe none all = some t
theorem append_lst {w : World} {jb mb n : Nat} {t : List UInt8} (h : Lst w jb mb n t) (hn : n ≤ 100000) (x : ByteArray) (hx : x.size ≤ 1000) :
    Calls Try.prog 10 #[.pointer (some ⟨jb, 0, none⟩), .int .i64 2, .string x] w fun e w' => e = .returned (.int .i64 0) ∧ Lst w' jb mb (n + 1) t ∧ JF w w' jb mb none := by
  obtain ⟨all, a, b⟩ := h.ex
  refine (append_live a hn 2 x (.inr rfl) hx).mono ?_
  rintro e w' ⟨rfl, h1, h2⟩
  refine ⟨rfl, ⟨_, h1, ?_⟩, h2⟩
  rw [Jo.lastSafe_append, b]
  rfl
theorem again_lst {w : World} {jb mb n : Nat} {t : List UInt8} (h : Lst w jb mb n t) :
    Calls Try.prog 11 #[.pointer (some ⟨mb, 0, none⟩)] w fun e w' => e = .returned (.pointer (some ⟨w.heap.size, 0, none⟩)) ∧ Mst w' w.heap.size n t ∧ Fr (fun _ => False) w w' := by
  obtain ⟨all, a, b⟩ := h.ex
  obtain ⟨m, M, S⟩ := a.mem
  refine (again_any M).mono ?_
  rintro e w' ⟨rfl, h1, h2⟩
  exact ⟨rfl, ⟨_, all, h1, S.again, b⟩, h2⟩
theorem open_lst {w : World} {mb n : Nat} {t : List UInt8} (h : Mst w mb n t) (hn : n ≤ 100000) :
    Calls Try.prog 8 #[.pointer (some ⟨mb, 0, none⟩)] w fun e w' => ∃ (jb len : Nat) (A : Option Addr) (cp : Nat), e = .returned (.tuple #[.pointer (some ⟨jb, 0, none⟩), .slice A len cp, .int .i64 0]) ∧ Lst w' jb mb n t ∧ w.heap.size ≤ jb ∧ Fr (fun _ => False) w w' := by
  obtain ⟨m, all, M, S, b⟩ := h
  refine (open_live M S hn).mono ?_
  rintro e w' ⟨jb, k, A, cp, rfl, h1, h2, _, _, _, h3⟩
  exact ⟨jb, _, A, cp, rfl, ⟨all, h1, b⟩, h2, h3⟩
theorem safe_lst {w : World} {jb mb n : Nat} {t : ByteArray} (h : Lst w jb mb n (bytesOf t)) :
    Calls Try.prog 12 #[.pointer (some ⟨jb, 0, none⟩)] w fun e w' => e = .returned (.tuple #[.string t, .bool true]) ∧ Fr (fun _ => False) w w' := by
  obtain ⟨all, a, b⟩ := h.ex
  have h1 := safe_live a
  rw [b] at h1
  have e : safeT (some (bytesOf t)) = t := mk_bytesOf t
  rw [e] at h1
  exact h1
set_option maxRecDepth 100000 in
set_option maxHeartbeats 4000000 in
theorem safest_walk (w : World) (s t : ByteArray) (z : Int) (hz1 : -9223372036854775808 ≤ z) (hz2 : z ≤ 9223372036854775807) : Calls Try.prog 4 #[.string s, .string t, .int .i64 z] w fun e w' => e = .returned (.bool true) ∧ Below w.heap.size w w' := by
  go_enter Try.func4, Try.ntmps4
  go_wp2_with fail
  refine (lives_any w).mono ?_
  rintro e w1 ⟨rfl, F1⟩
  have G1 := Lib.hid F1
  clear F1
  have hcase : (decide ((1000 : Int) < (s.size : Int)) = true ∨ decide ((1000 : Int) < (s.size : Int)) = false ∧ decide ((1000 : Int) < (t.size : Int)) = true) ∨ (decide ((1000 : Int) < (s.size : Int)) = false ∧ decide ((1000 : Int) < (t.size : Int)) = false ∧ s.size ≤ 1000 ∧ t.size ≤ 1000) := by
    simp only [decide_eq_true_eq, decide_eq_false_iff_not]
    omega
  rcases hcase with (d1 | ⟨d1, d2⟩) | ⟨d1, d2, hs, ht⟩
  · go_wp2_with fail
    go_ret
    exact ⟨rfl, G1.out.toBelow⟩
  · go_wp2_with fail
    go_ret
    exact ⟨rfl, G1.out.toBelow⟩
  go_wp2_with fail
  refine (new_any _).mono ?_
  rintro e w2 ⟨rfl, M0, F0⟩
  obtain ⟨b, hb⟩ : ∃ b, b = w1.heap.size := ⟨_, rfl⟩
  have hb0 : w.heap.size ≤ b := by have := G1.out.size; omega
  rw [← hb] at M0 ⊢
  have G2 := Lib.hid (fr_quiet G1.out F0)
  have hb1 := M0.blt
  have H2 := Lib.hid M0
  clear F0 hb M0 G1
  go_wp2_with fail
  refine (open_live H2.out holds_new (by decide)).mono ?_
  rintro e w3 ⟨j, k, A, cp, rfl, L3, q1, q2, q3, q4, F3⟩
  have hj0 : w.heap.size ≤ j := by omega
  have G3 := Lib.hid (fr_quiet G2.out F3)
  have H3 := Lib.hid L3
  obtain ⟨len, hlen⟩ : ∃ len, len = (([] : List Jo.Rc).drop k).length := ⟨_, rfl⟩
  rw [← hlen]
  clear F3 L3 G2 H2 q1 q2 q3 q4 hlen hb1
  go_wp2_with fail
  refine (append_live H3.out (by decide) 1 s (.inl rfl) hs).mono ?_
  rintro e w4 ⟨rfl, L4, F4⟩
  have G4 := Lib.hid (fr_jf G3.out F4 hb0 hj0 fun k hk => by cases hk)
  have H4 := Lib.hid L4
  clear F4 L4 G3 H3
  go_wp2_with fail
  refine (append_live H4.out (by decide) 1 t (.inl rfl) ht).mono ?_
  rintro e w5 ⟨rfl, L5, F5⟩
  have G5 := Lib.hid (fr_jf G4.out F5 hb0 hj0 fun k hk => by cases hk)
  have T5 : Hid (Lst w5 j b 2 (bytesOf t)) := Lib.hid ⟨_, L5, by rw [Jo.lastSafe_append]; rfl⟩
  clear F5 L5 G4 H4 hs d1 d2
  have hmk : ∀ W, (Instr.makeSlice 42 (.int .i64 990) (.int .i64 990)).run Try.prog W = .ok (.slice (some ⟨W.heap.size, 0, none⟩) 990 990) (W.alloc (.cells (Array.replicate 990 (Value.int .u8 0)) 5)) := fun W => Sf.mk_bytes 990 (by decide) W
  have hzt := Sf.zeros_text 990
  obtain ⟨ev, hev⟩ : ∃ ev : ByteArray, ev = ⟨(List.replicate 990 0).toArray⟩ := ⟨_, rfl⟩
  have hes : ev.size = 990 := by rw [hev]; show (List.replicate 990 (0 : UInt8)).toArray.size = 990; simp
  rw [← hev] at hzt
  obtain ⟨nn, hnn, hn150⟩ := Sf.umod z 150 (by decide) (by decide)
  clear hev
  go_wp2_with fail
  clear hmk hzt
  have G6 := Lib.hid (G5.out.alloc (.cells (Array.replicate 990 (Value.int .u8 0)) 5))
  have T6 := Lib.hid (T5.out.fr ((Fr.refl (fun _ => False) w5).alloc (.cells (Array.replicate 990 (Value.int .u8 0)) 5)))
  generalize w5.alloc _ = w6 at *
  clear G5 T5
  go_loopw [7, 8, 12] (fun vm vj i wr => ∃ k : Nat, k ≤ nn ∧ i = .int .i64 (k : Int) ∧ ∃ b j : Nat, vm = .pointer (some ⟨b, 0, none⟩) ∧ vj = .pointer (some ⟨j, 0, none⟩) ∧ w.heap.size ≤ b ∧ w.heap.size ≤ j ∧ Lst wr j b (k + 2) (bytesOf t) ∧ Fr (fun k => w.heap.size ≤ k) w wr) (fun _ _ i _ => nn - (intOf i).toNat)
  case atStart => exact ⟨0, Nat.zero_le _, rfl, b, j, rfl, rfl, hb0, hj0, T6.out, G6.out⟩
  case round =>
    clear T6 G6 hb0 hj0
    obtain ⟨k, hk, rfl, b, j, rfl, rfl, hb0, hj0, hL, hF⟩ := hrel
    have hnn' : wrap64 ((IntKind.u64.wrap z).tmod 150) = (nn : Int) := hnn
    by_cases hlt : k < nn
    · have d1 : decide ((k : Int) < (nn : Int)) = true := decide_eq_true (by omega)
      obtain ⟨q, hq, hq2⟩ : ∃ q : Nat, ((k : Int).tmod 2) = (q : Int) ∧ q < 2 := ⟨k % 2, by rw [Int.tmod_eq_emod_of_nonneg (by omega)]; omega, by omega⟩
      have HF := Lib.hid hF
      have HL := Lib.hid hL
      clear hF hL hnn
      have hle : 990 * (k % 2) ≤ ev.size := by omega
      have hx : (ev.extract 0 (990 * (k % 2))).size ≤ 1000 := by rw [ByteArray.size_extract]; omega
      have K1 := append_lst HL.out (by omega) _ hx
      clear hq hq2
      go_wp2_with fail
      refine K1.mono ?_
      clear K1
      rintro e w6 ⟨rfl, L6, F6⟩
      have G6 := Lib.hid (fr_jf HF.out F6 hb0 hj0 fun k hk => by cases hk)
      have H6 := Lib.hid L6
      have K6 := again_lst L6
      obtain ⟨u, hu⟩ : ∃ u, u = w6.heap.size := ⟨_, rfl⟩
      rw [← hu] at K6
      have hu0 : w.heap.size ≤ u := by have := G6.out.size; omega
      clear L6 F6 HF HL hu hx
      by_cases b20 : k % 20 = 19
      · go_wp2_with fail
        refine K6.mono ?_
        clear K6
        rintro e w7 ⟨rfl, M7, F7⟩
        have G7 := Lib.hid (fr_quiet G6.out F7)
        have H7 := Lib.hid M7
        clear F7 M7 G6 H6
        go_wp2_with fail
        refine (open_lst H7.out (by omega)).mono ?_
        rintro e w8 ⟨j2, len2, A2, cp2, rfl, L8, hj2, F8⟩
        have hj20 : w.heap.size ≤ j2 := by have := G7.out.size; omega
        have G8 := Lib.hid (fr_quiet G7.out F8)
        have H8 := Lib.hid L8
        clear F8 L8 G7 H7 hj2
        go_wp2_with fail
        refine (safe_lst H8.out).mono ?_
        rintro e w9 ⟨rfl, F9⟩
        have G9 := Lib.hid (fr_quiet G8.out F9)
        have H9 := Lib.hid (H8.out.fr F9)
        clear F9 G8 H8
        go_wp2_with fail
        have h32 : k + 1 + 2 = k + 2 + 1 := by omega
        refine ⟨⟨k + 1, by omega, rfl, _, _, rfl, rfl, hu0, hj20, ?_, G9.out⟩, by simp [intOf]; omega⟩
        rw [h32]
        exact H9.out
      · clear K6 hu0
        go_wp2_with fail
        refine (safe_lst H6.out).mono ?_
        rintro e w9 ⟨rfl, F9⟩
        have G9 := Lib.hid (fr_quiet G6.out F9)
        have H9 := Lib.hid (H6.out.fr F9)
        clear F9 G6 H6
        go_wp2_with fail
        have h32 : k + 1 + 2 = k + 2 + 1 := by omega
        refine ⟨⟨k + 1, by omega, rfl, _, _, rfl, rfl, hb0, hj0, ?_, G9.out⟩, by simp [intOf]; omega⟩
        rw [h32]
        exact H9.out
    · have hkn : k = nn := by omega
      subst hkn
      have d1 : decide ((k : Int) < (k : Int)) = false := decide_eq_false (by omega)
      have K1 := again_lst hL
      obtain ⟨u, hu⟩ : ∃ u, u = wr.heap.size := ⟨_, rfl⟩
      rw [← hu] at K1
      have HF := Lib.hid hF
      clear hF hL hnn hu
      go_wp2_with fail
      refine K1.mono ?_
      clear K1
      rintro e w7 ⟨rfl, M7, F7⟩
      have G7 := Lib.hid (fr_quiet HF.out F7)
      have H7 := Lib.hid M7
      clear F7 M7 HF
      go_wp2_with fail
      refine (open_lst H7.out (by omega)).mono ?_
      rintro e w8 ⟨j2, len2, A2, cp2, rfl, L8, hj2, F8⟩
      have G8 := Lib.hid (fr_quiet G7.out F8)
      have H8 := Lib.hid L8
      clear F8 L8 G7 H7 hj2
      go_wp2_with fail
      refine (safe_lst H8.out).mono ?_
      rintro e w9 ⟨rfl, F9⟩
      have G9 := Lib.hid (fr_quiet G8.out F9)
      clear F9 G8 H8
      go_wp2_with fail
      go_ret
      exact ⟨rfl, G9.out.toBelow⟩
end Go.Proofs.Ytdoljggaoidljaa
/- JournalSafest (P8.3): however many events come behind it, the last safety state is there behind every loss of power, and an elder one never is. For all texts and every whole number of 64 bits; no condition. -/
namespace Go.Proofs.Ytdoljggaoidljaa.journalSafest
open Go.ChangeShapes Go.WideShapes Go.ChangeAt Go.RowKit
open Go.ChangeMaps (open_string shut_string)

set_option maxRecDepth 100000 in
theorem lifted (os : Os) (started : os.Started) (H : Type) (enc : TypeId × Value → H) :
    ReturnsInHanded {} Try.checked os 4 .any (Rows.journalSafestSpec.pre6 enc Try.prog Try.f4 Rows.journalSafestRow.domain false) (Rows.journalSafestSpec.post enc Try.prog Try.f4 false true false false) := by
  refine returnsInHanded_of_change_sized (C := Try.checked) Try.own started (by kernel_rfl) Try.func4
    (ChangeSpec.witness6 (enc := enc) (C := Try.checked) false ⟨#[], #[.string .empty, .string .empty, .int .i64 0], []⟩ 8 (by kernel_rfl) (by kernel_rfl) (by kernel_rfl) (by kernel_rfl)) ?_
  intro W base args ds gs before hval0 hW hcnd0 hsz0 _
  have hval : ∀ (j : Nat) t v, Try.f4.params[j]? = some t → args[j]? = some v → Value.okWide Try.prog W .any base t v := hval0
  have hW' := hW
  obtain ⟨p, q, hA0, hV, rfl, hfz, hnd⟩ := hW
  have hA : DataW.TrodAll enc Try.prog W 0 (fun _ => true) true Try.f4.params.toList args.toList ds p := hA0
  have hsz : (DataW.weightsEach Try.prog (Try.f4.params.toList ++ Rows.journalSafestSpec.plain.varTypes Try.prog) (ds ++ gs)).all (· ≤ reachBytes) = true := hsz0
  rw [Try.params4] at hA hval hsz
  obtain ⟨v0, v1, v2, d0, d1, d2, p0, p1, p2, rfl, rfl, rfl, h0, h1, h2⟩ := trodAll_three hA
  obtain ⟨rfl, rfl⟩ := trodVars_none hV
  obtain ⟨s0, rfl, rfl, rfl, hs0⟩ := open_string Try.underlying9 (hval 0 9 v0 rfl rfl) h0
  obtain ⟨s1, rfl, rfl, rfl, hs1⟩ := open_string Try.underlying9 (hval 1 9 v1 rfl rfl) h1
  obtain ⟨a2, rfl, rfl, rfl, w2⟩ := open_int Try.underlying3 (hval 2 3 v2 rfl rfl) h2
  have b2 : -9223372036854775808 ≤ a2 ∧ a2 ≤ 9223372036854775807 := by
    simp only [Lit.wf, IntKind.min, IntKind.max, IntKind.signed, IntKind.bits, Bool.and_eq_true, decide_eq_true_eq, if_true] at w2
    have := w2.1
    have := w2.2
    omega
  have z0 : s0.size ≤ 140737488351232 := by
    have k := sized_string hsz (j := 0) (t := 9) rfl rfl
    have e : s0.data.toList.length = s0.size := by rw [Array.length_toList]; rfl
    unfold reachBytes at k
    omega
  have z1 : s1.size ≤ 140737488351232 := by
    have k := sized_string hsz (j := 1) (t := 9) rfl rfl
    have e : s1.data.toList.length = s1.size := by rw [Array.length_toList]; rfl
    unfold reachBytes at k
    omega
  refine (safest_walk W s0 s1 a2 b2.1 b2.2).mono fun e W' ⟨he, hb⟩ => ?_
  subst he
  exact law_post hW' rfl (by kernel_rfl) (by rw [Try.params4]; exact of_decide_eq_true (by kernel_rfl)) rfl rfl rfl hb

theorem proved : Rows.JournalSafestSaid :=
  OpenClaim.holds_of_wide 4 Try.f4 rfl rfl rfl rfl rfl rfl rfl ⟨rfl, rfl, rfl, rfl, rfl⟩ rfl rfl rfl rfl rfl (by kernel_rfl) Try.func4 (by kernel_rfl)
    (of_decide_eq_true (by kernel_rfl)) (by unfold Func.isWrapper; first | (rw [if_pos (by decide +kernel)]; kernel_rfl) | (rw [if_neg (by decide +kernel)]; exact ⟨rfl, rfl⟩))
    (fun os started H enc _ => lifted os started H enc)
end Go.Proofs.Ytdoljggaoidljaa.journalSafest

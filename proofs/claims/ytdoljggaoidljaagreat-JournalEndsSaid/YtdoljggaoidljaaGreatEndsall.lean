import Derived.Test.YtdoljggaoidljaaGreatRows
import Derived.ProofKit
import Derived.OpenShut
import Derived.Carry
import Derived.Below
import Derived.SizedLaws
import Derived.Test.YtdoljggaoidljaaGreatScr
import Derived.Test.YtdoljggaoidljaaGreatTop
/- How a law's statement follows from its walk: a call that answers true, and that leaves all that was there as it was, meets the law's specification, whatever its arguments are. -/
namespace Go.Proofs.YtdoljggaoidljaaGreat
open Go.ChangeShapes Go.WideShapes Go.ChangeAt Go.RowKit

theorem Tryz.laidOut : laidOutB Tryz.prog = true := by kernel_rfl
theorem Tryz.own : ownKnob Tryz.prog.godebug = none := by kernel_rfl

theorem args_stay {H : Type} {enc : TypeId × Value → H} {P : Program} (hl : laidOutB P = true) {W W' : World} (hb : Below W.heap.size W W') :
    ∀ {ts : List TypeId} {vs : List Value} {ds : List (DataW H)} {ps : List MemPlace}, (∀ t ∈ ts, P.readableRec t = true ∧ t < P.types.size) →
      DataW.TrodAll enc P W 0 (fun _ => true) true ts vs ds ps → (∀ x ∈ ps, x.block < W.heap.size) → DataW.TrodAll enc P W' 0 (fun b => decide (b < W.heap.size)) true ts vs ds ps
  | [], _, _, _, _, h, _ => by
    obtain ⟨rfl, rfl, rfl⟩ := trodAll_nil h
    exact trodAll_mk0
  | t :: ts, _, _, _, hr, h, hlt => by
    obtain ⟨v, vs, d, ds, p, ps, rfl, rfl, rfl, h0, r0⟩ := trodAll_cons h
    exact trodAll_cons_mk (Below.trod hl (hr t (by simp)).1 (hr t (by simp)).2 h0 hb (fun x hx => hlt x (by simp [hx])))
      (args_stay hl hb (fun u hu => hr u (by simp [hu])) r0 (fun x hx => hlt x (by simp [hx])))

/-- The law's specification is met. -/
theorem law_post {H : Type} {enc : TypeId × Value → H} {f : Func} {s : ChangeSpec} {W W' : World} {args : Array Value} {ds gs : List (DataW H)} {before : List MemPlace}
    (hW : DataW.Whole enc Tryz.prog f.params.toList s.vars false W args.toList ds gs before) (hv : s.vars = []) (hres : f.resultTypes = #[4])
    (hts : ∀ t ∈ f.params.toList, Tryz.prog.readableRec t = true ∧ t < Tryz.prog.types.size)
    (hfn : (s.fn H ds).results = [.lit (.bool true)]) (hargs : (s.fn H ds).args = ds) (hvars : (s.fn H ds).vars = []) (hb : Below W.heap.size W W') :
    ∃ v, Ending.returned (.bool true) = .returned v ∧ s.post enc Tryz.prog f false true false false W args v W' := by
  have hlt : ∀ p ∈ before, p.block < W.heap.size := fun p hp => hW.lt p hp
  have hW' := hW
  obtain ⟨p, q, hA, hV, rfl, hfz, hnd⟩ := hW
  rw [hv] at hV
  obtain ⟨rfl, rfl⟩ := trodVars_none hV
  refine ⟨_, rfl, ds, [], _, [], p, [], hW', ?_, ?_, ?_, hb.frame _, fun h => by cases h⟩
  · rw [List.append_nil, hfn, hres]
    exact trodAll_cons_mk (shut_bool Tryz.underlying4 _) trodAll_mk0
  · rw [List.append_nil, hargs]
    exact args_stay Tryz.laidOut hb hts hA (fun x hx => hlt x (by simp [hx]))
  · rw [List.append_nil, hv, hvars]
    rfl
end Go.Proofs.YtdoljggaoidljaaGreat
/- The walk of JournalEnds: a cut in each byte of an appending. -/
namespace Go.Proofs.YtdoljggaoidljaaGreat
open Go.RowKit

theorem and_one (a : Int) : ∃ q : Int, Go.bits .and .i64 a 1 = q ∧ 0 ≤ q ∧ q ≤ 1 := by
  refine ⟨_, rfl, ?_⟩
  have h : (BitVec.ofInt 64 a &&& BitVec.ofInt 64 1).toNat ≤ 1 := by
    rw [BitVec.toNat_and]
    have : (BitVec.ofInt 64 1).toNat = 1 := by decide
    rw [this]
    exact Nat.and_le_right
  show 0 ≤ IntKind.i64.wrap ((BitVec.ofInt 64 a &&& BitVec.ofInt 64 1).toNat : Int) ∧ IntKind.i64.wrap ((BitVec.ofInt 64 a &&& BitVec.ofInt 64 1).toNat : Int) ≤ 1
  rw [IntWalk.i64_in _ (by omega)]
  omega
/-- the script of one cut -/
def endsL (s t : ByteArray) (r : Int) (p : Int) (C : Nat) : List Oj := [⟨1, 1, s, none, 0, []⟩, ⟨1, 2, t, none, 0, []⟩, ⟨2, 0, ⟨#[]⟩, some ⟨C, 0, none⟩, 1, [(0, p)]⟩, ⟨1, r, t, none, 0, []⟩, ⟨3, 0, ⟨#[]⟩, none, 0, []⟩, ⟨1, 2, ⟨#[120]⟩, none, 0, []⟩, ⟨3, 0, ⟨#[]⟩, none, 0, []⟩]

theorem ends_ok {w : World} {s t : ByteArray} {r : Int} {p C : Nat} (hc : Rd w (some ⟨C, 0, none⟩) (cutCells [(0, (p : Int))])) (hC : C < w.heap.size) (hp : p ≤ 9223372036854775807) : ∀ o ∈ endsL s t r p C, o.ok w w.heap.size := by
  have bare : ∀ (k r : Int) (x : ByteArray), (⟨k, r, x, none, 0, []⟩ : Oj).ok w w.heap.size := fun k r x => ⟨fun h0 => by simp [cutCells] at h0, fun h0 => by simp at h0, by simp, by simp⟩
  intro o ho
  simp only [endsL, List.mem_cons, List.not_mem_nil, or_false] at ho
  rcases ho with rfl | rfl | rfl | rfl | rfl | rfl | rfl
  · exact bare _ _ _
  · exact bare _ _ _
  · refine ⟨hc, fun _ k hk => ?_, by simp, fun x hx => ?_⟩
    · have e : C = k := by injection hk
      omega
    · simp only [List.mem_cons, List.not_mem_nil, or_false] at hx
      subst hx
      exact ⟨(show (ki 0).wf = true by decide), WalkArith.wf_i64 ⟨by simp only; omega, by simp only; omega⟩⟩
  · exact bare _ _ _
  · exact bare _ _ _
  · exact bare _ _ _
  · exact bare _ _ _

set_option maxRecDepth 100000 in
set_option maxHeartbeats 8000000 in
theorem ends_walk (w : World) (s t : ByteArray) (kind : Int) (hs : s.size ≤ 140737488351232) (ht : t.size ≤ 140737488351232) :
    Calls Tryz.prog 4 #[.string s, .string t, .int .i64 kind] w fun e w' => e = .returned (.bool true) ∧ Below w.heap.size w w' := by
  have KL := lives_any w
  obtain ⟨nt, hnt, hnt2, hnt3⟩ : ∃ nt : Nat, min (t.size : Int) 1000 = (nt : Int) ∧ nt ≤ t.size ∧ nt ≤ 1000 := ⟨min t.size 1000, by omega, by omega, by omega⟩
  obtain ⟨ns, hns, hns2⟩ : ∃ ns : Nat, min (s.size : Int) 1000 = (ns : Int) ∧ ns ≤ s.size := ⟨min s.size 1000, by omega, by omega⟩
  obtain ⟨q, hq, hq0, hq1⟩ := and_one kind
  go_enter Tryz.func4, Tryz.ntmps4
  go_wp2_with fail
  refine KL.mono ?_
  rintro e w1 ⟨rfl, f1⟩
  have HF1 := Lib.hid (own_only f1)
  clear KL f1
  go_upto_region 3 with fail
  go_cut [0, 1] from 9 (fun v0 v1 wx => ∃ s' t' : ByteArray, v0 = .string s' ∧ v1 = .string t' ∧ t'.size ≤ 1000 ∧ Fr (fun _ => False) w1 wx)
  case first =>
    go_region
    go_wp2_with fail
    go_meet
    case rel => exact ⟨_, _, rfl, rfl, by rw [ByteArray.size_extract]; omega, (Fr.refl (fun _ => False) w1).drew⟩
  case rest =>
  obtain ⟨s', t', rfl, rfl, ht', f2⟩ := hcut
  have HF2 := Lib.hid (HF1.out.trans f2 fun _ _ h => h)
  clear HF1 f2 hnt hnt2 hnt3 hns hns2 hs ht
  go_wp2_with fail
  go_loopw [7] (fun i wr => ∃ p : Nat, p ≤ t'.size + 20 ∧ i = .int .i64 (p : Int) ∧ Fr (fun _ => False) w wr) (fun i _ => t'.size + 20 - (intOf i).toNat)
  case atStart => exact ⟨0, Nat.zero_le _, rfl, HF2.out⟩
  case round =>
    clear HF2
    obtain ⟨p, hp, rfl, fr⟩ := hrel
    by_cases hlt : p < t'.size + 20
    · have d1 : decide ((p : Int) < (t'.size : Int) + 20) = true := decide_eq_true (by omega)
      have d2 : decide (p < t'.size + 20) = true := decide_eq_true hlt
      by_cases h100 : 100 < p ∧ (p : Int) < (t'.size : Int) - 10
      · have e1 : decide ((100 : Int) < (p : Int)) = true := decide_eq_true (by omega)
        have e2 : decide (100 < p) = true := decide_eq_true h100.1
        have e3 : decide ((p : Int) < (t'.size : Int) - 10) = true := decide_eq_true h100.2
        have HF := Lib.hid fr
        clear fr h100
        go_wp2_with fail
        go_roundw
        case rel => exact ⟨p + 1, by omega, by go_num, HF.out⟩
        case measure => simp [intOf]; omega
      · have fa := fr.alloc (.cells #[.int .i64 0, .int .i64 (p : Int)] 29)
        have HC : Hid (Rd (wr.alloc (.cells #[.int .i64 0, .int .i64 (p : Int)] 29)) (some ⟨wr.heap.size, 0, none⟩) (cutCells [(0, (p : Int))])) := Lib.hid fun _ => ⟨wr.heap.size, 0, rfl, by simp, fun j u hu => by
          have hi := (Is.new wr 29 #[.int .i64 0, .int .i64 (p : Int)]).cell (0 + j)
          rw [Nat.zero_add] at hi ⊢
          rw [hi, ← Array.getElem?_toList]
          exact hu⟩
        have HF := Lib.hid fa
        have HZ : Hid ((wr.alloc (.cells #[.int .i64 0, .int .i64 (p : Int)] 29)).heap.size = wr.heap.size + 1) := Lib.hid (by simp)
        clear fr fa
        have hcase : (decide ((100 : Int) < (p : Int)) = false ∧ decide (100 < p) = false) ∨ (decide ((100 : Int) < (p : Int)) = true ∧ decide (100 < p) = true ∧ decide ((p : Int) < (t'.size : Int) - 10) = false) := by
          simp only [decide_eq_true_eq, decide_eq_false_iff_not]
          omega
        clear h100
        rcases hcase with ⟨e1, e2⟩ | ⟨e1, e2, e3⟩
        all_goals
          go_upto_region 9 with fail
          have fb := HF.out.alloc (.cells #[.int .i64 1, .int .i64 1, .string s', .slice none 0 0, .int .i64 1, .int .i64 2, .string t', .slice none 0 0, .int .i64 2, .int .i64 0, .string ⟨#[]⟩, .slice (some ⟨wr.heap.size, 0, none⟩) 1 1, .int .i64 1, .int .i64 (1 + q), .string t', .slice none 0 0, .int .i64 3, .int .i64 0, .string ⟨#[]⟩, .slice none 0 0, .int .i64 1, .int .i64 2, .string ⟨#[120]⟩, .slice none 0 0, .int .i64 3, .int .i64 0, .string ⟨#[]⟩, .slice none 0 0] 27)
          have ib := Is.new (wr.alloc (.cells #[.int .i64 0, .int .i64 (p : Int)] 29)) 27 #[.int .i64 1, .int .i64 1, .string s', .slice none 0 0, .int .i64 1, .int .i64 2, .string t', .slice none 0 0, .int .i64 2, .int .i64 0, .string ⟨#[]⟩, .slice (some ⟨wr.heap.size, 0, none⟩) 1 1, .int .i64 1, .int .i64 (1 + q), .string t', .slice none 0 0, .int .i64 3, .int .i64 0, .string ⟨#[]⟩, .slice none 0 0, .int .i64 1, .int .i64 2, .string ⟨#[120]⟩, .slice none 0 0, .int .i64 3, .int .i64 0, .string ⟨#[]⟩, .slice none 0 0]
          rw [HZ.out] at ib
          have fc := (Fr.refl (fun _ => False) (wr.alloc (.cells #[.int .i64 0, .int .i64 (p : Int)] 29))).alloc (.cells #[.int .i64 1, .int .i64 1, .string s', .slice none 0 0, .int .i64 1, .int .i64 2, .string t', .slice none 0 0, .int .i64 2, .int .i64 0, .string ⟨#[]⟩, .slice (some ⟨wr.heap.size, 0, none⟩) 1 1, .int .i64 1, .int .i64 (1 + q), .string t', .slice none 0 0, .int .i64 3, .int .i64 0, .string ⟨#[]⟩, .slice none 0 0, .int .i64 1, .int .i64 2, .string ⟨#[120]⟩, .slice none 0 0, .int .i64 3, .int .i64 0, .string ⟨#[]⟩, .slice none 0 0] 27)
          have hc := HC.out.fr fc fun _ _ => id
          have hw : wr.heap.size < ((wr.alloc (.cells #[.int .i64 0, .int .i64 (p : Int)] 29)).alloc (.cells #[.int .i64 1, .int .i64 1, .string s', .slice none 0 0, .int .i64 1, .int .i64 2, .string t', .slice none 0 0, .int .i64 2, .int .i64 0, .string ⟨#[]⟩, .slice (some ⟨wr.heap.size, 0, none⟩) 1 1, .int .i64 1, .int .i64 (1 + q), .string t', .slice none 0 0, .int .i64 3, .int .i64 0, .string ⟨#[]⟩, .slice none 0 0, .int .i64 1, .int .i64 2, .string ⟨#[120]⟩, .slice none 0 0, .int .i64 3, .int .i64 0, .string ⟨#[]⟩, .slice none 0 0] 27)).heap.size := by have h1 := fc.size; have h2 := HZ.out; omega
          generalize (wr.alloc (.cells #[.int .i64 0, .int .i64 (p : Int)] 29)).alloc (.cells #[.int .i64 1, .int .i64 1, .string s', .slice none 0 0, .int .i64 1, .int .i64 2, .string t', .slice none 0 0, .int .i64 2, .int .i64 0, .string ⟨#[]⟩, .slice (some ⟨wr.heap.size, 0, none⟩) 1 1, .int .i64 1, .int .i64 (1 + q), .string t', .slice none 0 0, .int .i64 3, .int .i64 0, .string ⟨#[]⟩, .slice none 0 0, .int .i64 1, .int .i64 2, .string ⟨#[120]⟩, .slice none 0 0, .int .i64 3, .int .i64 0, .string ⟨#[]⟩, .slice none 0 0] 27) = wb at *
          have KP := play_any (w := wb) (A := some ⟨wr.heap.size + 1, 0, none⟩) (c := 7) (l := endsL s' t' (1 + q) p wr.heap.size) (fun _ => ⟨wr.heap.size + 1, 0, rfl, ib.lt, fun j u hu => by
            have hi := ib.cell (0 + j)
            rw [Nat.zero_add] at hi ⊢
            rw [hi, ← Array.getElem?_toList]
            exact hu⟩) (ends_ok hc hw (by omega)) (by simp [endsL])
          have HFB := Lib.hid fb
          have e7 : (endsL s' t' (1 + q) p wr.heap.size).length = 7 := rfl
          rw [e7] at KP
          clear fb ib fc hc hw HF HC HZ e7 d1 d2 e1 e2
          go_wp2_with fail
          refine KP.mono ?_
          rintro e w7 ⟨rfl, f7⟩
          have HF7 := Lib.hid (HFB.out.trans f7 fun _ _ h => h)
          clear KP f7 HFB
          go_wp2_with fail
          go_roundw
          case rel => exact ⟨p + 1, by omega, by go_num, HF7.out⟩
          case measure => simp [intOf]; omega
    · have d1 : decide ((p : Int) < (t'.size : Int) + 20) = false := decide_eq_false (by omega)
      have d2 : decide (p < t'.size + 20) = false := decide_eq_false hlt
      go_wp2_with fail
      go_ret
      exact ⟨rfl, fr.toBelow0⟩
end Go.Proofs.YtdoljggaoidljaaGreat
/- JournalEnds (P8.2): a cut in each byte of an appending leaves the records ahead of it, and the one that is appended wholly or not at all. For every two texts and every whole number; no condition. -/
namespace Go.Proofs.YtdoljggaoidljaaGreat.journalEnds
open Go.ChangeShapes Go.WideShapes Go.ChangeAt Go.RowKit
open Go.ChangeMaps (open_string shut_string)

set_option maxRecDepth 100000 in
theorem lifted (os : Os) (started : os.Started) (H : Type) (enc : TypeId × Value → H) :
    ReturnsInHanded {} Tryz.checked os 4 .any (Rows.journalEndsSpec.pre6 enc Tryz.prog Tryz.f4 Rows.journalEndsRow.domain false) (Rows.journalEndsSpec.post enc Tryz.prog Tryz.f4 false true false false) := by
  refine returnsInHanded_of_change_sized (C := Tryz.checked) Tryz.own started (by kernel_rfl) Tryz.func4
    (ChangeSpec.witness6 (enc := enc) (C := Tryz.checked) false ⟨#[], #[.string .empty, .string .empty, .int .i64 0], []⟩ 8 (by kernel_rfl) (by kernel_rfl) (by kernel_rfl) (by kernel_rfl)) ?_
  intro W base args ds gs before hval0 hW hcnd0 hsz0 _
  have hval : ∀ (j : Nat) t v, Tryz.f4.params[j]? = some t → args[j]? = some v → Value.okWide Tryz.prog W .any base t v := hval0
  have hW' := hW
  obtain ⟨p, q, hA0, hV, rfl, hfz, hnd⟩ := hW
  have hA : DataW.TrodAll enc Tryz.prog W 0 (fun _ => true) true Tryz.f4.params.toList args.toList ds p := hA0
  have hsz : (DataW.weightsEach Tryz.prog (Tryz.f4.params.toList ++ Rows.journalEndsSpec.plain.varTypes Tryz.prog) (ds ++ gs)).all (· ≤ reachBytes) = true := hsz0
  rw [Tryz.params4] at hA hval hsz
  obtain ⟨v0, v1, v2, d0, d1, d2, p0, p1, p2, rfl, rfl, rfl, h0, h1, h2⟩ := trodAll_three hA
  obtain ⟨rfl, rfl⟩ := trodVars_none hV
  obtain ⟨s0, rfl, rfl, rfl, hs0⟩ := open_string Tryz.underlying9 (hval 0 9 v0 rfl rfl) h0
  obtain ⟨s1, rfl, rfl, rfl, hs1⟩ := open_string Tryz.underlying9 (hval 1 9 v1 rfl rfl) h1
  obtain ⟨a2, rfl, rfl, rfl, w2⟩ := open_int Tryz.underlying3 (hval 2 3 v2 rfl rfl) h2
  have b2 : -9223372036854775808 ≤ a2 ∧ a2 ≤ 9223372036854775807 := by
    simp only [Lit.wf, IntKind.min, IntKind.max, IntKind.signed, IntKind.bits, Bool.and_eq_true, decide_eq_true_eq, if_true] at w2
    have := w2.1
    have := w2.2
    omega
  have z0 : s0.size ≤ 140737488351232 := by
    have k := sized_string hsz (j := 0) (t := 9) rfl rfl
    have e : s0.data.toList.length = s0.size := by rw [Array.length_toList]; rfl
    unfold reachBytes at k
    omega
  have z1 : s1.size ≤ 140737488351232 := by
    have k := sized_string hsz (j := 1) (t := 9) rfl rfl
    have e : s1.data.toList.length = s1.size := by rw [Array.length_toList]; rfl
    unfold reachBytes at k
    omega
  refine (ends_walk W s0 s1 a2 (by omega) (by omega)).mono fun e W' ⟨he, hb⟩ => ?_
  subst he
  exact law_post hW' rfl (by kernel_rfl) (by rw [Tryz.params4]; exact of_decide_eq_true (by kernel_rfl)) rfl rfl rfl hb

theorem proved : Rows.JournalEndsSaid :=
  OpenClaim.holds_of_wide 4 Tryz.f4 rfl rfl rfl rfl rfl rfl rfl ⟨rfl, rfl, rfl, rfl, rfl⟩ rfl rfl rfl rfl rfl (by kernel_rfl) Tryz.func4 (by kernel_rfl)
    (of_decide_eq_true (by kernel_rfl)) (by unfold Func.isWrapper; first | (rw [if_pos (by decide +kernel)]; kernel_rfl) | (rw [if_neg (by decide +kernel)]; exact ⟨rfl, rfl⟩))
    (fun os started H enc _ => lifted os started H enc)
end Go.Proofs.YtdoljggaoidljaaGreat.journalEnds

/- The walk of CellsPlay: whatever row of calls, the program's memory and the document's answer alike. -/
import Derived.Test.YtafhkhkpknipmaaTwo
import Derived.Test.YtafhkhkpknipmaaFree
import Derived.Deep.CutRange
import Derived.Deep.DeepCutAuto
import Derived.Deep.CutBlock
namespace Go.Proofs.Ytafhkhkpknipmaa
open Go.RowKit Go.Maps

/-- a block that belongs to neither memory -/
def Off (ob b : Nat) (r : Option Nat) (R : Rf) : Prop := ¬ Foot b r ob ∧ ¬ R.all ob
theorem Two.off {w W : World} {b : Nat} {r : Option Nat} {R : Rf} {m m2 : Mm} (h : Two w W b r R m m2) {ob : Nat} (ho : W.heap.size ≤ ob) : Off ob b r R :=
  ⟨fun k => by have := mem_foot h.mem _ k; omega, fun k => by have := h.ref.lt _ k; omega⟩

theorem wf_bounds {a : Int} (h : (ki a).wf = true) : -9223372036854775808 ≤ a ∧ a ≤ 9223372036854775807 := by
  simp only [Lit.wf, IntKind.min, IntKind.max, IntKind.signed, IntKind.bits, Bool.and_eq_true, decide_eq_true_eq, if_true] at h
  have := h.1
  have := h.2
  omega
theorem Few.acts_lt {R : Rf} {m : Mm} {k : Nat} (h : Few R m k) (hk : k ≤ 1048576) : m.acts < 4611686018427387904 := by have := h.acts; omega
theorem Few.worn_lt {R : Rf} {m : Mm} {k : Nat} (h : Few R m k) (hk : k ≤ 1048576) (p : Nat) : m.worn p < 4611686018427387904 := by have := h.worn p; omega
theorem rd_back {w W : World} {A : Option Addr} {xs : List Value} (h : Rd w A xs) (f : Fr (fun j => w.heap.size ≤ j) w W) : Rd W A xs := fun h0 => by
  obtain ⟨b, o, hA, hb, hc⟩ := h h0
  exact ⟨b, o, hA, Nat.lt_of_lt_of_le hb f.size, fun i u hu => (f.cell (p := ⟨b, o + i, none⟩) hb (by show ¬ _ ≤ b; omega)).trans (hc i u hu)⟩

/-- what was appended to nothing, in memory of the call's own -/
theorem app_new {W w1 : World} {t : TypeId} {v' : Value} {n size : Nat} {xs : List Value} (hown : w1.ownsRow 0 t size v' n xs) (hg : (W.alloc (.cells #[] t)).grownBy w1 (Value.slice (some ⟨W.heap.size, 0, none⟩) 0 0).ownBlock)
    (hat : v'.ownBlock = (Value.slice (some ⟨W.heap.size, 0, none⟩) 0 0).ownBlock ∨ v'.ownBlock = some (W.alloc (.cells #[] t)).heap.size) :
    ∃ A' c', v' = .slice A' n c' ∧ n ≤ c' ∧ (∀ k, blk A' = some k → W.heap.size ≤ k) ∧ Fr (fun k => W.heap.size ≤ k) W w1 := by
  obtain ⟨A', c', rfl, hc, _, _, _⟩ := wide_form hown
  refine ⟨A', c', rfl, hc, fun k hk => ?_, ((Fr.refl (fun k => W.heap.size ≤ k) W).alloc _).grown hg fun k hk => .inl (by injection hk with hk; exact Nat.le_of_eq hk)⟩
  rw [Row.own, Row.own] at hat
  rcases hat with e | e
  · rw [e] at hk
    injection hk with hk
    exact Nat.le_of_eq hk
  · rw [e] at hk
    injection hk with hk
    have : (W.alloc (.cells #[] t)).heap.size = W.heap.size + 1 := by simp
    omega
/-- one thing more behind that -/
theorem app_more {W w1 w2 : World} {t : TypeId} {A' : Option Addr} {c' n size : Nat} {v2 : Value} {x : Value} {xs : List Value} (hA' : ∀ k, blk A' = some k → W.heap.size ≤ k) (F1 : Fr (fun k => W.heap.size ≤ k) W w1) (hown : w2.ownsRow 0 t size v2 (n + 1) xs) (hg : (w1.alloc (.cells #[x] t)).grownBy w2 (Value.slice A' n c').ownBlock)
    (hat : v2.ownBlock = (Value.slice A' n c').ownBlock ∨ v2.ownBlock = some (w1.alloc (.cells #[x] t)).heap.size) :
    ∃ g c2, v2 = .slice (some ⟨g, 0, none⟩) (n + 1) c2 ∧ n + 1 ≤ c2 ∧ W.heap.size ≤ g ∧ Fr (fun k => W.heap.size ≤ k) W w2 := by
  obtain ⟨A2, c2, rfl, hc, _, hp, _⟩ := wide_form hown
  obtain ⟨g, rfl, _⟩ := hp (by omega)
  refine ⟨g, c2, rfl, hc, ?_, (F1.alloc _).grown hg fun k hk => .inl (hA' k (by rw [← Row.own]; exact hk))⟩
  have hs := F1.size
  rcases hat with e | e
  · rw [Row.own, Row.own] at e
    exact hA' g e.symm
  · rw [Row.own] at e
    injection e with e
    have : (w1.alloc (.cells #[x] t)).heap.size = w1.heap.size + 1 := by simp
    have e2 : g = (w1.alloc (.cells #[x] t)).heap.size := e
    omega
theorem rd_front {w : World} {A : Option Addr} {xs ys : List Value} (h : Rd w A (xs ++ ys)) : Rd w A xs := fun h0 => by
  obtain ⟨b, o, hA, hb, hc⟩ := h (by rw [List.length_append]; omega)
  exact ⟨b, o, hA, hb, fun j u hu => hc j u (by rw [List.getElem?_append_left (List.getElem?_eq_some_iff.1 hu).1]; exact hu)⟩
theorem rd_end {w : World} {g : Nat} {x : Value} {xs : List Value} (h : Rd w (some ⟨g, 0, none⟩) (xs ++ [x])) : w.cell? ⟨g, xs.length, none⟩ = some x := by
  obtain ⟨b, o, hA, hb, hc⟩ := h (by simp)
  injection hA with hA
  injection hA with h1 h2
  subst h1 h2
  have := hc xs.length x (by simp)
  rwa [Nat.zero_add] at this
theorem Try.infoTx : (Try.prog.info? 9).map (fun i => (i.zero, i.size, i.bytes)) = some (some (.string ⟨#[]⟩), 1, 16) := by kernel_rfl
theorem texts_one (xs : List ByteArray) : ∀ u ∈ xs.map Value.string, u.oneCell' = true := fun u hu => by
  obtain ⟨x, _, rfl⟩ := List.mem_map.1 hu
  rfl
theorem head_texts (g n c : Nat) (h : n + 1 ≤ c) (W : World) : (Instr.slice 28 (.slice (some ⟨g, 0, none⟩) (n + 1) c) none (some (.int .i64 (n : Int))) none).run Try.prog W = .ok (.slice (some ⟨g, 0, none⟩) n c) W := by
  have h1 : (n : Int) ≤ (c : Int) := by omega
  go_simp
/-- the call's own cuts from the j-th on -/
def OwnC (wr : World) (A : Option Addr) (l : List (Int × Int)) (j : Nat) : Prop := 0 < l.length → ∃ g cur, A = some ⟨g, 0, none⟩ ∧ Is wr g 50 cur ∧ l.length * 2 ≤ cur.size ∧ ∀ q u, j * 2 ≤ q → (cutCells l)[q]? = some u → cur[q]? = some u
theorem ownC_start {w : World} {A : Option Addr} {c : Nat} {l : List (Int × Int)} (h : w.ownsRow 0 50 2 (.slice A l.length c) l.length (cutCells l)) : OwnC w A l 0 := fun h0 => by
  rcases h.2 with ⟨_, k⟩ | ⟨g, cap, cur, hv, _, hg, hnc, _, hs, ht⟩
  · omega
  · injection hv with h1 _ h3
    have hn0 := h.1
    refine ⟨g, cur, h1, hg, ?_, fun q u _ hu => ?_⟩
    · rw [hs]; exact Nat.mul_le_mul_right 2 hnc
    · rw [← ht, List.getElem?_take] at hu
      split at hu
      · rwa [Array.getElem?_toList] at hu
      · cases hu

set_option maxRecDepth 100000 in
set_option maxHeartbeats 16000000 in
theorem play_walk {A : Option Addr} {c : Nat} (l : List Opr) (hl : l.length ≤ 1048576) (hs : ∀ p ∈ l, p.small) (w : World) (h : Script w A l) :
    Calls Try.prog 3 #[.slice A l.length c] w fun e w' => e = .returned (.bool true) ∧ Below w.heap.size w w' := by
  go_enter Try.func3, Try.ntmps3
  go_wp2_with fail
  refine (lives_any w).mono ?_
  rintro e w1 ⟨rfl, F1⟩
  have G1 := Lib.hid F1
  clear F1
  go_wp2_with fail
  refine (new_any _).mono ?_
  rintro e w2 ⟨rfl, M2, F2⟩
  obtain ⟨b0, hb0⟩ : ∃ b, b = w1.heap.size := ⟨_, rfl⟩
  rw [← hb0] at M2 ⊢
  have G2 := Lib.hid F2
  have N2 := Lib.hid M2
  have B0 := Lib.hid hb0
  clear F2 M2 hb0
  go_wp2_with fail
  refine (rnew_any _).mono ?_
  rintro e w3 ⟨R0, rfl, M3, F3, L3, E3⟩
  have T0 := Lib.hid (Two.start G1.out B0.out N2.out G2.out M3 F3 L3)
  have W0 : Hid (Few R0 Mm.new 0) := Lib.hid ⟨Nat.le_refl _, fun _ => Nat.le_refl _, fun x hx => by rw [E3] at hx; cases hx⟩
  clear M3 F3 L3 E3 G1 G2 N2 B0
  go_wp2_with fail
  go_loopw [3, 4, 25] (fun vm vr i wr => ∃ k : Nat, k ≤ l.length ∧ i = .int .i64 k ∧ ∃ (b : Nat) (r : Option Nat) (R : Rf) (m : Mm), vm = .pointer (some ⟨b, 0, none⟩) ∧ vr = .pointer (some ⟨R.b, 0, none⟩) ∧ Two w wr b r R m m ∧ Few R m k) (fun _ _ i _ => l.length - (intOf i).toNat)
  case atStart => exact ⟨0, Nat.zero_le _, rfl, b0, none, R0, _, rfl, rfl, T0.out, W0.out⟩
  case round =>
    clear T0 W0
    obtain ⟨k, hk, rfl, b, r, R, m, rfl, rfl, hT, hW⟩ := hrel
    obtain ⟨wo, hwo⟩ : ∃ wo : World, wo = wr := ⟨_, rfl⟩
    subst hwo
    by_cases hlt : k < l.length
    · obtain ⟨g, o, rfl, hg, hcl⟩ := h.1 (by omega)
      have hcs := hcl k hlt
      have hok := h.2 l[k] (List.getElem_mem hlt)
      have hsm := hs l[k] (List.getElem_mem hlt)
      have hx : ∀ j u, (l[k].cells)[j]? = some u → wo.cell? ⟨g, o + k * 6 + j, none⟩ = some u := fun j u hu => (hT.fr.cell (p := ⟨g, o + k * 6 + j, none⟩) hg (by show ¬ _ ≤ g; omega)).trans (hcs j u hu)
      generalize l[k] = p at *
      obtain ⟨kd, pg, ps, n, Ax, cx, xs, Al, cl, cs⟩ := p
      have x0 : wo.cell? ⟨g, o + k * 6, none⟩ = some (.int .i64 kd) := hx 0 _ rfl
      have x1 : wo.cell? ⟨g, o + k * 6 + 1, none⟩ = some (.int .i64 pg) := hx 1 _ rfl
      have x2 : wo.cell? ⟨g, o + k * 6 + 2, none⟩ = some (.int .i64 ps) := hx 2 _ rfl
      have x3 : wo.cell? ⟨g, o + k * 6 + 3, none⟩ = some (.int .i64 n) := hx 3 _ rfl
      have x4 : wo.cell? ⟨g, o + k * 6 + 4, none⟩ = some (.slice Ax xs.length cx) := hx 4 _ rfl
      have x5 : wo.cell? ⟨g, o + k * 6 + 5, none⟩ = some (.slice Al cs.length cl) := hx 5 _ rfl
      have hkb : k ≤ 1048576 := by omega
      have HH := Lib.hid h
      have HS := Lib.hid hs
      have HT := Lib.hid hT
      have HW := Lib.hid hW
      have HO := Lib.hid hok
      clear h hs hT hW hok hcl hcs hx
      go_upto_block 2 with fail
      obtain ⟨ob, hob⟩ : ∃ ob, ob = wo.heap.size := ⟨_, rfl⟩
      have fa := (Fr.refl (fun _ => False) wo).alloc (.cells #[.int .i64 kd, .int .i64 pg, .int .i64 ps, .int .i64 n, .slice Ax xs.length cx, .slice Al cs.length cl] 31)
      have ia := Is.new wo 31 #[.int .i64 kd, .int .i64 pg, .int .i64 ps, .int .i64 n, .slice Ax xs.length cx, .slice Al cs.length cl]
      rw [← hob] at ia
      have HA := Lib.hid ia
      have HOff := Lib.hid (HT.out.off (Nat.le_of_eq hob.symm))
      have T1 := Lib.hid (HT.out.nil fa)
      have hobw : w.heap.size ≤ ob := by rw [hob]; exact HT.out.fr.size
      rw [← hob]
      clear fa ia x0 x1 x2 x3 x4 x5 HT hob
      generalize wo.alloc (.cells #[.int .i64 kd, .int .i64 pg, .int .i64 ps, .int .i64 n, .slice Ax xs.length cx, .slice Al cs.length cl] 31) = W at *
      have HRX : Hid (Rd W Ax (xs.map Value.string) ∧ Rd W Al (cutCells cs)) := Lib.hid ⟨rd_back HO.out.rx T1.out.fr, rd_back HO.out.rl T1.out.fr⟩
      have wk := wf_bounds HO.out.ints.1
      have wp := wf_bounds HO.out.ints.2.1
      have wa := wf_bounds HO.out.ints.2.2.1
      have wn := wf_bounds HO.out.ints.2.2.2
      simp only at wk wp wa wn
      have HWF := Lib.hid HO.out.wf
      have HRW : Hid (Rd w Ax (xs.map Value.string) ∧ Rd w Al (cutCells cs)) := Lib.hid ⟨HO.out.rx, HO.out.rl⟩
      have HCX := Lib.hid HO.out.cx
      have HCL := Lib.hid HO.out.cl
      have HSM := Lib.hid hsm
      clear wo HO hsm
      go_cut [3, 4, 7, 8, 9, 10, 11, 12, 13, 14, 15, 25] from 25 to 180 (fun s3 s4 s7 s8 s9 s10 s11 s12 s13 s14 s15 s25 wx => s25 = .int .i64 (k : Nat) ∧ ∃ (b : Nat) (r : Option Nat) (R : Rf) (m : Mm), s3 = .pointer (some ⟨b, 0, none⟩) ∧ s4 = .pointer (some ⟨R.b, 0, none⟩) ∧ Two w wx b r R m m ∧ Few R m (k + 1) ∧ Is wx ob 31 #[.int .i64 kd, .int .i64 pg, .int .i64 ps, .int .i64 n, .slice Ax xs.length cx, .slice Al cs.length cl])
      case first =>
        have hcase : kd = 1 ∨ kd = 2 ∨ kd = 3 ∨ kd = 4 ∨ kd = 5 ∨ (¬ kd = 1 ∧ ¬ kd = 2 ∧ ¬ kd = 3 ∧ ¬ kd = 4 ∧ ¬ kd = 5) := by omega
        rcases hcase with rfl | rfl | rfl | rfl | rfl | ⟨n1, n2, n3, n4, n5⟩
        · have k4 : W.cell? ⟨ob, 4, none⟩ = some (.slice Ax xs.length cx) := HA.out.cell 4
          have hobl := HA.out.lt
          obtain ⟨i0, hi0, hz0, hz1, hz2⟩ := info_parts Try.infoTx
          have own0 := own_none W 9 1
          have hrd0 : Rd (W.alloc (.cells #[] 9)) Ax (xs.map Value.string) := HRX.out.1.fr ((Fr.refl (fun _ => False) W).alloc _) (fun _ _ => id)
          have hlx : xs.length ≤ 1048576 := HSM.out.1
          have hjx : (jn xs).length ≤ 1048576 := HSM.out.2.1
          have HL1 : Hid (0 + xs.length ≤ maxLen) := Lib.hid (by unfold maxLen; omega)
          have HL2 : Hid ((0 + xs.length) * 16 ≤ 140737488355328) := Lib.hid (by omega)
          have HL3 : Hid (xs.length + 1 ≤ maxLen) := Lib.hid (by unfold maxLen; omega)
          have HL4 : Hid ((xs.length + 1) * 16 ≤ 140737488355328) := Lib.hid (by omega)
          have HL5 : Hid ((xs.map Value.string).length = xs.length * 1) := Lib.hid (by simp)
          have HT1 := Lib.hid (texts_one xs)
          go_wp2_with (first | (at_builtin; refine wpList_append_wide _ rfl (.tmp 33) (.tmp 35) 28 rfl 0 9 i0 _ 1 16 Try.underlying28 hi0 hz0 hz1 hz2 rfl (by decide) (.slice (some ⟨W.heap.size, 0, none⟩) 0 0) 0 [] rfl own0 Ax cx xs.length (xs.map Value.string) HL5.out rfl hrd0 HT1.out HL1.out HL2.out (Nat.zero_le _) ?_; intro v' w1 hown hg hat; obtain ⟨A', c', rfl, hnc, hA', F1⟩ := app_new hown hg hat; rw [Nat.zero_add, List.nil_append] at hown; have HO := Lib.hid hown; have HF1 := Lib.hid F1; have HA1 := Lib.hid hA'; (try clear hown); (try clear hg); (try clear hat); (try clear own0); (try clear hrd0); (try clear F1); (try clear hA'); (try clear k4)) | (at_builtin; refine wpList_append_wide _ rfl (.tmp 36) (.tmp 37) 28 rfl 0 9 i0 _ 1 16 Try.underlying28 hi0 hz0 hz1 hz2 rfl (by decide) (.slice A' xs.length c') xs.length (xs.map Value.string) rfl (wide_fr HO.out ((Fr.refl (fun _ => False) w1).alloc _) fun _ _ => id) (some ⟨w1.heap.size, 0, none⟩) 1 1 [.string ⟨#[115, 112, 97, 114, 101]⟩] rfl rfl (Rd.one w1 _ 9) (by simp [Value.oneCell']) HL3.out HL4.out (Nat.zero_le _) ?_; intro v2 w2 hown2 hg2 hat2; obtain ⟨g', c2, rfl, hc2, hg', F2⟩ := app_more HA1.out HF1.out hown2 hg2 hat2; have HO2 := Lib.hid hown2; have HF2 := Lib.hid F2; (try clear hown2); (try clear hg2); (try clear hat2); (try clear F2)))
          have hsl : ∀ W, (Instr.slice 28 (.slice (some ⟨g', 0, none⟩) (xs.length + 1) c2) none (some (.int .i64 (xs.length : Int))) none).run Try.prog W = .ok (.slice (some ⟨g', 0, none⟩) xs.length c2) W := head_texts g' xs.length c2 hc2
          have HMK : Hid (∀ X : World, Is X ob 31 #[.int .i64 1, .int .i64 pg, .int .i64 ps, .int .i64 n, .slice Ax xs.length cx, .slice Al cs.length cl] → Rd X (some ⟨g', 0, none⟩) (xs.map Value.string ++ [.string ⟨#[115, 112, 97, 114, 101]⟩]) → X.cell? ⟨ob, 1, none⟩ = some (.int .i64 pg) ∧ X.cell? ⟨ob, 2, none⟩ = some (.int .i64 ps) ∧ X.cell? ⟨ob, 4, none⟩ = some (.slice Ax xs.length cx) ∧ X.cell? ⟨g', xs.length, none⟩ = some (.string ⟨#[115, 112, 97, 114, 101]⟩)) := Lib.hid fun X a r => ⟨a.cell 1, a.cell 2, a.cell 4, by have := rd_end r; rwa [List.length_map] at this⟩
          have hng : ∀ j, j < W.heap.size → g' ≠ j := fun j hj => by omega
          have HNF : Hid (¬ Foot b r g' ∧ ¬ R.all g') := Lib.hid ⟨fun k => hng g' (mem_foot T1.out.mem g' k) rfl, fun k => hng g' (T1.out.ref.lt g' k) rfl⟩
          have HFG : Hid (∀ S : Nat → Prop, ¬ S g' → ∀ k, blk (some ⟨g', 0, none⟩) = some k → ¬ S k) := Lib.hid fun S h k hk => by
            have hk' : g' = k := by injection hk
            exact hk' ▸ h
          have T3 := Lib.hid ((T1.out.own HF2.out).nil (Fr.refl (fun _ => False) w2).drew)
          have A3 := Lib.hid (HA.out.fr (HF2.out.drew) (by omega))
          have O3 : Hid (Rd w2.drew (some ⟨g', 0, none⟩) (xs.map Value.string ++ [.string ⟨#[115, 112, 97, 114, 101]⟩])) := Lib.hid ((wide_rd HO2.out).fr (Fr.refl (fun _ => False) w2).drew fun _ _ => id)
          have s3 := HMK.out _ A3.out O3.out
          obtain ⟨tx, htx⟩ : ∃ tx : ByteArray, tx = ⟨(jn xs).toArray⟩ := ⟨_, rfl⟩
          have HTX : Hid (bytesOf tx = jn xs) := Lib.hid (by rw [htx]; rfl)
          have htz : tx.size = (jn xs).length := by rw [htx]; rfl
          have hnb1 : xs.length ≤ 140737488355328 := by omega
          have hnb2 : (jn xs).length ≤ 140737488355328 := by omega
          have hnb3 : xs.length ≤ c2 := by omega
          have hnb4 : tx.size ≤ 140737488355328 := by omega
          have HTY := Lib.hid htx
          have KALL : Hid (∀ (X : World) (A0 : Option Addr) (c0 : Nat), Rd X A0 (xs.map Value.string) → Calls Try.prog 14 #[.slice A0 xs.length c0] X fun e w' => e = .returned (.string tx) ∧ Fr (fun _ => False) X w') := Lib.hid fun X A0 c0 h => by rw [HTY.out]; exact all_any h hnb1 hnb2
          have KREF : Hid (∀ X : World, RM X R m → Calls Try.prog 13 #[.pointer (some ⟨R.b, 0, none⟩), .int .i64 pg, .int .i64 ps, .string tx] X fun e w' => e = .returned (.int .i64 (m.burnE pg ps (jn xs) : Nat)) ∧ RM w' R (m.burnM pg ps (jn xs)) ∧ Fr R.all X w') := Lib.hid fun X h => by
            have := rburn_any h (HW.out.acts_lt hkb) HW.out.wf pg ps wp.1 wp.2 wa.1 wa.2 tx hnb4
            rwa [HTX.out] at this
          have KB := burn_any T3.out.mem (HW.out.acts_lt hkb) pg ps wp.1 wp.2 wa.1 wa.2 (A := some ⟨g', 0, none⟩) (c := c2) (rd_front O3.out) (HFG.out _ HNF.out.1) hnb1 hnb3 hnb2
          have HWB := Lib.hid (HW.out.burn pg ps (jn xs))
          have q1 : ((m.burnE pg ps (jn xs) : Int) != (m.burnE pg ps (jn xs) : Int)) = false := by simp
          clear htx htz HTY HTX hnb1 hnb2 hnb3 hnb4 hlx hjx hng hi0 hz0 hz1 hz2
          generalize m.burnE pg ps (jn xs) = eb at *
          generalize m.burnM pg ps (jn xs) = mb at *
          have q2 : (tx.toList == tx.toList) = true := by simp
          go_wp2_with fail
          go_region_held3 (fun Wx => Wx.cell? ⟨ob, 1, none⟩ = some (.int .i64 pg) ∧ Wx.cell? ⟨ob, 2, none⟩ = some (.int .i64 ps) ∧ Wx.cell? ⟨ob, 4, none⟩ = some (.slice Ax xs.length cx) ∧ Wx.cell? ⟨g', xs.length, none⟩ = some (.string ⟨#[115, 112, 97, 114, 101]⟩)) (first | exact s3 | exact s4) (first | (go_at_call 12; refine KB.mono ?_; rintro e w4 ⟨rfl, M4, F4⟩; have T4 := Lib.hid (T3.out.stepm M4 F4); have A4 := Lib.hid (A3.out.fr F4 HOff.out.1); have O4 := Lib.hid (O3.out.fr F4 (HFG.out _ HNF.out.1)); have s4 := HMK.out _ A4.out O4.out; clear M4 F4))
          clear KB s3
          have T5 := Lib.hid (T4.out.nil (Fr.refl (fun _ => False) w4).drew)
          have A5 := Lib.hid A4.out.drew
          have O5 := Lib.hid (O4.out.fr (Fr.refl (fun _ => False) w4).drew fun _ _ => id)
          have s5 := HMK.out _ A5.out O5.out
          clear T4 A4 O4 s4
          have i1 : (0 : Int) ≤ (xs.length : Int) := by omega
          have i2 : (xs.length : Int) < (xs.length : Int) + 1 := by omega
          have i3 : xs.length < xs.length + 1 := by omega
          have i4 : (xs.length : Int) < ((xs.length + 1 : Nat) : Int) := by omega
          go_wp2_with fail
          go_region_held3 (fun Wx => Wx.cell? ⟨ob, 1, none⟩ = some (.int .i64 pg) ∧ Wx.cell? ⟨ob, 2, none⟩ = some (.int .i64 ps) ∧ Wx.cell? ⟨ob, 4, none⟩ = some (.slice Ax xs.length cx) ∧ Wx.cell? ⟨g', xs.length, none⟩ = some (.string ⟨#[115, 112, 97, 114, 101]⟩)) (first | exact s5 | exact s6 | exact s7 | exact s8 | exact s9) (first | (go_at_call 14; with_reducible refine (KALL.out _ _ _ (rd_back HRW.out.1 T8.out.fr)).mono ?_; rintro e w9 ⟨rfl, F9⟩; have T9 := Lib.hid (T8.out.nil F9); have A9 := Lib.hid (A8.out.fr F9 id); have O9 := Lib.hid (O8.out.fr F9 fun _ _ => id); have s9 := HMK.out _ A9.out O9.out; clear F9) | (go_at_call 14; with_reducible refine (KALL.out _ _ _ (rd_front O7.out)).mono ?_; rintro e w8 ⟨rfl, F8⟩; have T8 := Lib.hid (T7.out.nil F8); have A8 := Lib.hid (A7.out.fr F8 id); have O8 := Lib.hid (O7.out.fr F8 fun _ _ => id); have s8 := HMK.out _ A8.out O8.out; clear F8) | (go_at_call 13; refine (KREF.out _ T6.out.ref).mono ?_; rintro e w7 ⟨rfl, M7, F7⟩; have T7 := Lib.hid (T6.out.stepr M7 F7); have A7 := Lib.hid (A6.out.fr F7 HOff.out.2); have O7 := Lib.hid (O6.out.fr F7 (HFG.out _ HNF.out.2)); have s7 := HMK.out _ A7.out O7.out; clear M7 F7) | (go_at_call 14; with_reducible refine (KALL.out _ _ _ (rd_back HRW.out.1 T5.out.fr)).mono ?_; rintro e w6 ⟨rfl, F6⟩; have T6 := Lib.hid (T5.out.nil F6); have A6 := Lib.hid (A5.out.fr F6 id); have O6 := Lib.hid (O5.out.fr F6 fun _ _ => id); have s6 := HMK.out _ A6.out O6.out; clear F6))
          go_wp2_with fail
          go_meet
          exact ⟨rfl, b, r, R, mb, rfl, rfl, T9.out, HWB.out, A9.out⟩
        · have T2 := Lib.hid (T1.out.nil (Fr.refl (fun _ => False) W).drew)
          have A2 := Lib.hid HA.out.drew
          have k0 : W.drew.cell? ⟨ob, 1, none⟩ = some (.int .i64 pg) := A2.out.cell 1
          go_wp2_with fail
          go_region_held3 (fun Wx => Wx.cell? ⟨ob, 1, none⟩ = some (.int .i64 pg)) (first | exact k0 | exact k8 | exact k9) (first | (go_at_call 15; refine (erase_any T2.out.mem (HW.out.acts_lt hkb) (HW.out.worn_lt hkb) pg wp.1 wp.2).mono ?_; rintro e w8 ⟨rfl, M8, F8⟩; have T8 := Lib.hid (T2.out.stepm M8 F8); have A8 := Lib.hid (A2.out.fr F8 HOff.out.1); have k8 : w8.cell? ⟨ob, 1, none⟩ = some (.int .i64 pg) := A8.out.cell 1; clear M8 F8) | (go_at_call 16; refine (rerase_any T8.out.ref (HW.out.acts_lt hkb) (HW.out.worn_lt hkb) HW.out.wf pg wp.1 wp.2).mono ?_; rintro e w9 ⟨rfl, M9, F9⟩; have T9 := Lib.hid (T8.out.stepr M9 F9); have A9 := Lib.hid (A8.out.fr F9 HOff.out.2); have k9 : w9.cell? ⟨ob, 1, none⟩ = some (.int .i64 pg) := A9.out.cell 1; clear M9 F9))
          go_wp2_with fail
          go_meet
          exact ⟨rfl, b, r, R, _, rfl, rfl, T9.out, HW.out.erase pg, A9.out⟩
        · have k1 : W.cell? ⟨ob, 1, none⟩ = some (.int .i64 pg) := HA.out.cell 1
          have k2 : W.cell? ⟨ob, 2, none⟩ = some (.int .i64 ps) := HA.out.cell 2
          have k3 : W.cell? ⟨ob, 3, none⟩ = some (.int .i64 n) := HA.out.cell 3
          go_wp2_with fail
          refine (read_any T1.out.mem pg ps n wp.1 wp.2 wa.1 wa.2 wn.1 wn.2).mono ?_
          rintro e w8 ⟨rfl, rfl⟩
          go_wp2_with fail
          refine (rread_any T1.out.ref pg ps n wp.1 wp.2 wa.1 wa.2 wn.1 wn.2).mono ?_
          rintro e w9 ⟨rfl, rfl⟩
          go_wp2_with fail
          go_meet
          exact ⟨rfl, b, r, R, m, rfl, rfl, T1.out, HW.out.up, HA.out⟩
        · have k5 : W.cell? ⟨ob, 5, none⟩ = some (.slice Al cs.length cl) := HA.out.cell 5
          have hobl := HA.out.lt
          obtain ⟨i0, hi0, hz0, hz1, hz2⟩ := info_parts Try.infoCut
          have own0 := own_none W 50 2
          have hrd0 : Rd (W.alloc (.cells #[] 50)) Al (cutCells cs) := HRX.out.2.fr ((Fr.refl (fun _ => False) W).alloc _) (fun _ _ => id)
          have hlc : cs.length ≤ 1048576 := HSM.out.2.2
          have HL1 : Hid (0 + cs.length ≤ maxLen) := Lib.hid (by unfold maxLen; omega)
          have HL2 : Hid ((0 + cs.length) * 16 ≤ 140737488355328) := Lib.hid (by omega)
          go_wp2_with (at_builtin; refine wpList_append_wide _ rfl (.tmp 127) (.tmp 129) 29 rfl 0 50 i0 _ 2 16 Try.underlying29 hi0 hz0 hz1 hz2 rfl (by decide) (.slice (some ⟨W.heap.size, 0, none⟩) 0 0) 0 [] rfl own0 Al cl cs.length (cutCells cs) (cutCells_length cs) rfl hrd0 (cutCells_one cs) HL1.out HL2.out (Nat.zero_le _) ?_; intro v' w1 hown hg hat; obtain ⟨A', c', rfl, hnc, hA', F1⟩ := app_new hown hg hat; rw [Nat.zero_add, List.nil_append] at hown; have HO := Lib.hid hown; have HF1 := Lib.hid F1; have A2 := Lib.hid (HA.out.fr F1 (by omega)); have T2 := Lib.hid (T1.out.own F1); (try clear hown); (try clear hg); (try clear hat); (try clear own0); (try clear hrd0); (try clear F1); (try clear k5))
          have hAlt : ∀ k, blk A' = some k → k < w1.heap.size := fun k hk => wide_lt HO.out k (by rw [Row.own]; exact hk)
          have hneb : blk A' ≠ some b := fun e => by have := hA' _ e; have := mem_foot T1.out.mem b (.inl rfl); omega
          have hneR : blk A' ≠ some R.b := fun e => by have := hA' _ e; have := T1.out.ref.lt R.b (.inl rfl); omega
          refine (arm_any T2.out.mem (wide_rd HO.out) hneb (Nat.le_trans hlc (by decide)) HWF.out).mono ?_
          rintro e w4 ⟨rfl, M4, F4⟩
          have T4 := Lib.hid (T2.out.armm M4 F4)
          have A4 := Lib.hid (A2.out.fr F4 fun e => HOff.out.1 (.inl e))
          have HO4 := Lib.hid (wide_fr HO.out F4 fun k hk e => hneb (by rw [Row.own] at hk; rw [hk, e]))
          have k5 : w4.cell? ⟨ob, 5, none⟩ = some (.slice Al cs.length cl) := A4.out.cell 5
          have hrd4 := rd_back HRW.out.2 T4.out.fr
          have hsz4 := F4.size
          have HSZ := Lib.hid hsz4
          clear M4 F4 T2 A2 HO hsz4
          go_wp2_with fail
          refine (rarm_any T4.out.ref hrd4 (by omega)).mono ?_
          rintro e w5 ⟨rfl, A5', c5', M5, F5, hA5⟩
          have T5 := Lib.hid (T4.out.armr M5 F5 hA5)
          have A5 := Lib.hid (A4.out.fr F5 fun e => HOff.out.2 (.inl e))
          have HO5 := Lib.hid (wide_fr HO4.out F5 fun k hk e => hneR (by rw [Row.own] at hk; rw [hk, e]))
          have HW5 := Lib.hid (HW.out.arm (A := A5') (c := c5') HWF.out (fun i => cutAt cs i))
          have HK : Hid (∀ W', Fr (fun q => blk A' = some q) w5 W' → Two w W' b (some w1.heap.size) { R with A := A5', c := c5', l := cs } (m.arm fun i => cutAt cs i) (m.arm fun i => cutAt cs i)) := Lib.hid fun W' f => by
            refine T5.out.keep f ?_ ?_ fun j hj => Nat.le_trans T1.out.fr.size (hA' j hj)
            · rintro j (rfl | hj) hq
              · exact hneb hq
              · injection hj with hj
                have := hAlt j hq
                omega
            · rintro j hj hq
              have h1 := hA' j hq
              have h2 := hAlt j hq
              have h3 := HSZ.out
              rcases hj with hj | hj | hj | hj | hj
              · have := T1.out.ref.lt j (.inl hj); omega
              · have := T1.out.ref.lt j (.inr (.inl hj)); omega
              · have := T1.out.ref.lt j (.inr (.inr (.inl hj))); omega
              · have := T1.out.ref.lt j (.inr (.inr (.inr (.inl hj)))); omega
              · have := hA5 j hj; omega
          clear M5 F5 T4 A4 HO4 hA5 hrd4 k5
          go_wp2_with fail
          go_loopw [142] (fun i wr => ∃ j : Nat, j ≤ cs.length ∧ i = .int .i64 j ∧ OwnC wr A' cs j ∧ Fr (fun q => blk A' = some q) w5 wr) (fun i _ => cs.length - (intOf i).toNat)
          case atStart => exact ⟨0, Nat.zero_le _, rfl, ownC_start HO5.out, Fr.refl _ _⟩
          case round =>
            obtain ⟨j, hj, rfl, hO, hF⟩ := hrel
            have HF := Lib.hid hF
            by_cases hlt : j < cs.length
            · obtain ⟨g', cur, hAg, hI, hcs, hcu⟩ := hO (by omega)
              subst hAg
              have hcc := cutCells_at cs j hlt
              have e0 := (hI.cell (j * 2)).trans (hcu _ _ (Nat.le_refl _) hcc.1)
              have e1 := (hI.cell (j * 2 + 1)).trans (hcu _ _ (by omega) hcc.2)
              have ef := hI.frozen
              have hgl := hA' g' rfl
              have hobg : ob ≠ g' := by omega
              have F := T5.out.fr.trans hF fun q _ hq => by have hq' : g' = q := by { injection hq }; have := T1.out.fr.size; omega
              obtain ⟨g2, o2, hAl, hg2, hc2⟩ := rd_back HRW.out.2 F (by rw [cutCells_length]; omega)
              subst hAl
              have d0 := hc2 _ _ hcc.1
              have d1 := hc2 _ _ hcc.2
              have k5 : wr.cell? ⟨ob, 5, none⟩ = some (.slice (some ⟨g2, o2, none⟩) cs.length cl) := (A5.out.fr hF fun e => hobg (by have e' : g' = ob := by { injection e }; exact e'.symm)).cell 5
              have HI := Lib.hid hI
              have HCU := Lib.hid hcu
              have hgb := hI.lt
              rw [← Nat.add_assoc] at d1
              generalize hxx : cs[j] = x at *
              obtain ⟨xa, xp⟩ := x
              simp only at e0 e1 d0 d1
              clear hO hF F hc2 hcc hcu hI hxx
              go_wp2_with fail
              go_quiet (fail)
              go_wp2_with fail
              go_roundw
              case rel =>
                refine ⟨j + 1, by omega, by go_num, fun _ => ⟨g', _, rfl, ((HI.out.fr ((Fr.refl (fun _ => False) wr).drewN nq) id).set (j * 2) _).set (j * 2 + 1) _, by simpa using hcs, fun q u hq hu => ?_⟩, ((HF.out.drewN nq).setCell (p := ⟨g', j * 2, none⟩) (.inl rfl) _).setCell (p := ⟨g', j * 2 + 1, none⟩) (.inl rfl) _⟩
                rw [Array.getElem?_setIfInBounds_ne (by omega), Array.getElem?_setIfInBounds_ne (by omega)]
                exact HCU.out q u (by omega) hu
              case measure => simp [intOf]; omega
            · clear hO hF
              go_wp2_with fail
              go_meet
              exact ⟨rfl, b, some w1.heap.size, { R with A := A5', c := c5', l := cs }, _, rfl, rfl, HK.out _ HF.out, HW5.out, A5.out.fr HF.out fun e => by have := hA' _ e; omega⟩
        · have k0 : W.cell? ⟨ob, 1, none⟩ = some (.int .i64 pg) := HA.out.cell 1
          go_wp2_with fail
          refine (again_any T1.out.mem).mono ?_
          rintro e w8 ⟨rfl, M8, F8⟩
          have H8 := Lib.hid M8
          have HF8 := Lib.hid F8
          clear M8 F8 k0
          go_wp2_with fail
          refine (ragain_any (T1.out.ref.none HF8.out)).mono ?_
          rintro e w9 ⟨Q, rfl, M9, F9, L9, E9⟩
          have T9 := Lib.hid (T1.out.again H8.out HF8.out M9 F9 L9)
          have W9 := Lib.hid (few_again HW.out (Q := Q) (fun x hx => by rw [E9] at hx; cases hx))
          have A9 := Lib.hid ((HA.out.fr HF8.out id).fr F9 id)
          have D9 := Lib.hid ((Fr.refl (fun _ => False) w9).drew)
          have M1 := Lib.hid (T9.out.2.none D9.out)
          have M2 := Lib.hid (T9.out.1.mem.none D9.out)
          have T10 := Lib.hid (T9.out.1.nil D9.out)
          have A10 := Lib.hid A9.out.drew
          have k9 : w9.drew.cell? ⟨ob, 1, none⟩ = some (.int .i64 pg) := A10.out.cell 1
          have KB1 := bare_at M1.out pg wp.1 wp.2 (k := m.bare pg) rfl
          have KB2 := bare_at M2.out pg wp.1 wp.2 (k := m.bare pg) rfl
          have q3 : ((m.bare pg : Int) != (m.bare pg : Int)) = false := by simp
          clear M9 F9 L9 E9 H8 HF8 M1 M2 D9
          generalize m.bare pg = bn at *
          generalize W.heap.size = b8 at *
          go_wp2_with fail
          go_region_held3 (fun Wx => Wx.cell? ⟨ob, 1, none⟩ = some (.int .i64 pg)) (exact k9) (first | (go_at_call 23; with_reducible refine KB1.mono ?_; rintro e w8 ⟨rfl, rfl⟩) | (go_at_call 23; with_reducible refine KB2.mono ?_; rintro e w8 ⟨rfl, rfl⟩))
          go_wp2_with fail
          go_meet
          exact ⟨rfl, b8, none, Q, m.again, rfl, rfl, T10.out, W9.out, A10.out⟩
        · go_wp2_with fail
          go_meet
          exact ⟨rfl, b, r, R, m, rfl, rfl, T1.out, HW.out.up, HA.out⟩
      case rest =>
        clear T1 HW HA HRX HOff
        obtain ⟨rfl, b5, r5, R5, m5, rfl, rfl, T5, W5, A5⟩ := hcut
        have k1 := A5.cell 1
        have H5 := Lib.hid T5
        have HW5 := Lib.hid W5
        have KT := told_any T5.mem T5.ref pg wp.1 wp.2
        clear T5 W5 A5
        go_wp2_with fail
        refine KT.mono ?_
        clear KT
        rintro e w6 ⟨rfl, n6, rfl⟩
        have H6 := Lib.hid (H5.out.nil ((Fr.refl _ _).drewN n6))
        clear H5 k1
        go_wp2_with fail
        go_roundw
        case rel => exact ⟨k + 1, by omega, by go_num, b5, r5, R5, m5, rfl, rfl, H6.out, HW5.out⟩
        case measure => simp [intOf]; omega
    · have HT := Lib.hid hT
      clear hT hW h hs
      go_wp2_with fail
      refine (again_any HT.out.mem).mono ?_
      rintro e w8 ⟨rfl, M8, F8⟩
      have H8 := Lib.hid M8
      have HF8 := Lib.hid F8
      clear M8 F8
      go_wp2_with fail
      refine (ragain_any (HT.out.ref.none HF8.out)).mono ?_
      rintro e w9 ⟨Q, rfl, M9, F9, L9, E9⟩
      have T9 := Lib.hid (HT.out.again H8.out HF8.out M9 F9 L9).1
      clear M9 F9 L9 E9 H8 HF8 HT
      generalize wo.heap.size = b8 at *
      go_wp2_with fail
      go_loopw [16] (fun i wr => ∃ q : Nat, q ≤ 24 ∧ i = .int .i64 q ∧ wr = w9) (fun i _ => 24 - (intOf i).toNat)
      case atStart => exact ⟨0, Nat.zero_le _, rfl, rfl⟩
      case round =>
        obtain ⟨q, hq, rfl, rfl⟩ := hrel
        by_cases hq4 : q < 24
        · obtain ⟨tx, htx⟩ : ∃ tx, tx = cutP (m.pg q) 0 4096 := ⟨_, rfl⟩
          have hr : m.again.spotE (q : Int) 0 4096 = 0 ∧ m.again.readT (q : Int) 0 4096 = cutP (m.pg q) 0 4096 := read_cut (m := m.again) (p := q) (a := 0) (n := 4096) rfl hq4 (Nat.le_refl _)
          rw [← htx] at hr
          have KR := read_at T9.out.mem (q : Int) 0 4096 (by omega) (by omega) (by decide) (by decide) (by decide) (by decide) hr.1 hr.2
          have c0 := T9.out.ref.c0
          have co := T9.out.ref.co hq4
          have how := T9.out.ref.lt Q.ob (.inr (.inr (.inl rfl)))
          have hbw := T9.out.ref.lt Q.b (.inl rfl)
          have hcv := text_of (w := wr) (b := Q.g q) (o := 0) (n := 4096) (c := 4096) (f := m.pg q) (fun i hi => by rw [Nat.zero_add]; exact (T9.out.ref.page q hq4).cell hi)
          rw [← htx] at hcv
          clear htx hr
          go_wp2_with fail
          refine KR.mono ?_
          clear KR
          rintro e w5 ⟨rfl, rfl⟩
          go_wp2_with fail
          go_roundw
          case rel => exact ⟨q + 1, by omega, by go_num, trivial⟩
          case measure => simp [intOf]; omega
        · go_wp2_with fail
          go_ret
          exact ⟨rfl, T9.out.fr.toBelow⟩
end Go.Proofs.Ytafhkhkpknipmaa

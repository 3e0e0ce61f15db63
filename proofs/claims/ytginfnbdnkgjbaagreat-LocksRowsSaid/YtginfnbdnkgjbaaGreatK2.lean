/- Contracts and plain mathematics of earlier stages: Rlk. -/
import Derived.Test.YtginfnbdnkgjbaaGreatKz
import Derived.Test.YtginfnbdnkgjbaaGreatKf
import Derived.Deep.LoopGhost
import Derived.Deep.CutBlock
namespace Go.Proofs.YtginfnbdnkgjbaaGreat
open Go.RowKit

/-! ### Plain: insertion into a rising list -/
/-- where a number goes in: behind the last one of the first n that isn't greater -/
def slotL (out : List Int) (s : Int) : Nat → Nat
  | 0 => 0
  | n + 1 => if s < out.getD n 0 then slotL out s n else n + 1
theorem slotL_le (out : List Int) (s : Int) : ∀ n, slotL out s n ≤ n
  | 0 => Nat.le_refl _
  | n + 1 => by
    rw [slotL]
    split
    · have := slotL_le out s n; omega
    · exact Nat.le_refl _
theorem slotL_hi (out : List Int) (s : Int) : ∀ n, ∀ j, slotL out s n ≤ j → j < n → s < out.getD j 0
  | 0, j, _, h => by omega
  | n + 1, j, h1, h2 => by
    rw [slotL] at h1
    by_cases hc : s < out.getD n 0
    · rw [if_pos hc] at h1
      by_cases e : j = n
      · subst e; exact hc
      · exact slotL_hi out s n j h1 (by omega)
    · rw [if_neg hc] at h1
      omega
theorem slotL_lo (out : List Int) (s : Int) : ∀ n, 0 < slotL out s n → out.getD (slotL out s n - 1) 0 ≤ s
  | 0, h => by simp [slotL] at h
  | n + 1, h => by
    rw [slotL] at h ⊢
    by_cases hc : s < out.getD n 0
    · rw [if_pos hc] at h ⊢
      exact slotL_lo out s n h
    · rw [if_neg hc]
      simp only [Nat.add_sub_cancel]
      omega
def insL (out : List Int) (s : Int) : List Int := if inL out s = true then out else out.take (slotL out s out.length) ++ s :: out.drop (slotL out s out.length)
def insAll : List Int → List Int → List Int
  | out, [] => out
  | out, s :: r => insAll (insL out s) r
theorem insL_mem (out : List Int) (s x : Int) : x ∈ insL out s ↔ x ∈ out ∨ x = s := by
  unfold insL
  split
  · rename_i h
    rw [inL_iff] at h
    constructor
    · exact .inl
    · rintro (h' | rfl)
      · exact h'
      · exact h
  · rw [List.mem_append, List.mem_cons]
    constructor
    · rintro (h | rfl | h)
      · exact .inl (List.mem_of_mem_take h)
      · exact .inr rfl
      · exact .inl (List.mem_of_mem_drop h)
    · rintro (h | rfl)
      · rw [← List.take_append_drop (slotL out s out.length) out, List.mem_append] at h
        rcases h with h | h
        · exact .inl h
        · exact .inr (.inr h)
      · exact .inr (.inl rfl)
theorem insL_up {out : List Int} (h : out.Pairwise (· < ·)) (s : Int) : (insL out s).Pairwise (· < ·) := by
  unfold insL
  split
  · exact h
  · rename_i hn
    have hn : s ∉ out := fun e => hn ((inL_iff _ _).2 e)
    generalize ha : slotL out s out.length = a
    have hal : a ≤ out.length := by rw [← ha]; exact slotL_le _ _ _
    have hlo : ∀ x ∈ out.take a, x < s := by
      intro x hx
      obtain ⟨j, hj, rfl⟩ := List.mem_take_iff_getElem.1 hx
      have h0 : 0 < a := by omega
      have k := slotL_lo out s out.length (by rw [ha]; exact h0)
      rw [ha, List.getD_eq_getElem?_getD, List.getElem?_eq_getElem (by omega)] at k
      simp only [Option.getD_some] at k
      have hne : out[a - 1]'(by omega) ≠ s := fun e => hn (e ▸ List.getElem_mem _)
      rw [List.pairwise_iff_getElem] at h
      by_cases e : j = a - 1
      · subst e; omega
      · have := h j (a - 1) (by omega) (by omega) (by omega)
        omega
    have hhi : ∀ x ∈ out.drop a, s < x := by
      intro x hx
      obtain ⟨j, hj, rfl⟩ := List.getElem_of_mem hx
      rw [List.length_drop] at hj
      have k := slotL_hi out s out.length (a + j) (by rw [ha]; omega) (by omega)
      rw [List.getD_eq_getElem?_getD, List.getElem?_eq_getElem (by omega)] at k
      rw [List.getElem_drop]
      exact k
    have hp := h
    rw [← List.take_append_drop a out, List.pairwise_append] at hp
    rw [List.pairwise_append, List.pairwise_cons]
    refine ⟨hp.1, ⟨hhi, hp.2.1⟩, fun x hx y hy => ?_⟩
    rcases List.mem_cons.1 hy with rfl | hy
    · exact hlo x hx
    · exact hp.2.2 x hx y hy
theorem insAll_up : ∀ (l out : List Int), out.Pairwise (· < ·) → (insAll out l).Pairwise (· < ·)
  | [], _, h => h
  | s :: r, _, h => insAll_up r _ (insL_up h s)
theorem insAll_mem : ∀ (l out : List Int) (x : Int), x ∈ insAll out l ↔ x ∈ out ∨ x ∈ l
  | [], out, x => by simp [insAll]
  | s :: r, out, x => by
    rw [insAll, insAll_mem r, insL_mem, List.mem_cons, or_assoc]
def rawR (r : Rt) : List Int := r.path.map St.sec ++ r.flank.map Nd.sec ++ r.over
theorem locks_ref (r : Rt) : insAll [] (rawR r) = locksM r :=
  rising_eq (insAll_up _ _ List.Pairwise.nil) (locksM_lt r) fun x => by
    rw [insAll_mem, locksM_mem]
    unfold rawR rawLocks
    simp only [List.not_mem_nil, false_or, List.mem_append]
    constructor
    · rintro ((h | h) | h)
      · exact .inr (.inl h)
      · exact .inr (.inr h)
      · exact .inl h
    · rintro (h | h | h)
      · exact .inr h
      · exact .inl (.inl h)
      · exact .inl (.inr h)

theorem rd_low {S : Nat → Prop} {w w1 : World} {A : Option Addr} {xs : List Value} (h : Rd w A xs) (f : Fr S w w1) (hn : ∀ k, k < w.heap.size → ¬ S k) : Rd w1 A xs := fun h0 => by
  obtain ⟨b, o, hA, hb, hc⟩ := h h0
  refine ⟨b, o, hA, Nat.lt_of_lt_of_le hb f.size, fun j u hu => ?_⟩
  rw [f.cell (p := ⟨b, o + j, none⟩) hb (hn b hb)]
  exact hc j u hu
/-! ### Cutting a row in two -/
theorem cut_head {w : World} {B n c : Nat} {A : Option Addr} {xs : List Value} (h : w.ownsRow B 3 1 (.slice A n c) n xs) (a : Nat) (ha : a ≤ n) :
    ∃ A2 c2, (∀ W, (Instr.slice 25 (.slice A n c) none (some (.int .i64 (a : Int))) none).run Tryz.prog W = .ok (.slice A2 a c2) W) ∧ Rd w A2 (xs.take a) := by
  have hr := wide_rd h
  obtain ⟨_, _, e, hnc, hm, hb, hz⟩ := wide_form h
  injection e with e1 _ e2
  subst e1 e2
  have hxs := h.1
  rcases A with _ | p
  · obtain ⟨rfl, rfl⟩ := hz rfl
    obtain rfl : a = 0 := by omega
    exact ⟨none, 0, fun W => by go_simp, fun h0 => by simp at h0⟩
  · have h1 : (a : Int) ≤ (c : Int) := by omega
    refine ⟨some p, c, fun W => ?_, fun h0 => ?_⟩
    · obtain ⟨b, o, q⟩ := p
      go_simp
    · rw [List.length_take] at h0
      obtain ⟨b, o, e, hlt, hc⟩ := hr (by omega)
      refine ⟨b, o, e, hlt, fun j u hu => hc j u ?_⟩
      rw [List.getElem?_take] at hu
      split at hu
      · exact hu
      · cases hu
theorem cut_tail {w : World} {B n c : Nat} {A : Option Addr} {xs : List Value} (h : w.ownsRow B 3 1 (.slice A n c) n xs) (a : Nat) (ha : a ≤ n) :
    ∃ A2 c2, (∀ W, (Instr.slice 25 (.slice A n c) (some (.int .i64 (a : Int))) none none).run Tryz.prog W = .ok (.slice A2 (n - a) c2) W) ∧ Rd w A2 (xs.drop a) := by
  obtain ⟨_, _, e, hnc, hm, hb, hz⟩ := wide_form h
  injection e with e1 _ e2
  subst e1 e2
  have hxs := h.1
  rcases h.2 with ⟨hv, h0⟩ | ⟨g, cap, cur, hv, _, hg, _⟩
  · injection hv with hv _ hv2
    subst hv hv2 h0
    obtain rfl : a = 0 := by omega
    refine ⟨none, 0, fun W => by go_simp, fun hh => ?_⟩
    rw [List.length_drop, hxs] at hh
    omega
  · injection hv with hv _ hv2
    subst hv hv2
    have hr := wide_rd h
    have h1 : ¬ (n : Int) < (a : Int) := by omega
    have h2 : (n : Int) - (a : Int) = ((n - a : Nat) : Int) := by omega
    by_cases hc1 : c = a
    · subst hc1
      obtain rfl : n = c := by omega
      refine ⟨some ⟨g, 0, none⟩, 0, fun W => ?_, fun hh => ?_⟩
      · go_simp
      · rw [List.length_drop, hxs] at hh
        omega
    · refine ⟨some ⟨g, a, none⟩, c - a, fun W => ?_, fun hh => ?_⟩
      · have h3 : (a : Int) ≤ (n : Int) := by omega
        have h4 : ¬ (c : Int) - (a : Int) = 0 := by omega
        go_simp
      · obtain ⟨b, o, e, hlt, hc⟩ := hr (by rw [List.length_drop] at hh; omega)
        injection e with e
        injection e with e1 e2
        subst e1 e2
        refine ⟨g, a, rfl, hlt, fun j u hu => ?_⟩
        rw [List.getElem?_drop] at hu
        have := hc _ _ hu
        rw [Nat.zero_add] at this
        exact this

set_option maxRecDepth 100000 in
set_option maxHeartbeats 8000000 in
theorem rlocks_any (C : Cm) (k : Int) (w : World) (h : C.Ok w) (hb : ∀ r ∈ C.rs, (r.over.length + (r.path.length + r.flank.length)) * 8 ≤ 70368744177664) :
    Calls Tryz.prog 26 #[C.val, .int .i64 k] w (Nums w (locksR C k)) := by
  unfold locksR
  have HF0 := Lib.hid ((Fr.refl (fun _ => False) w).alloc (.cells C.arr 30))
  unfold Cm.val Cm.arr at *
  cases hs : isSecB C.rs.length k
  · rw [if_neg (by decide)]
    rcases not_sec hs with hn | ⟨j, rfl, hle⟩
    · have d0 : decide (k < 0) = true := by simpa using hn
      clear hs
      go_enter Tryz.func26, Tryz.ntmps26
      go_wp2_with fail
      go_ret
      exact ⟨none, 0, rfl, World.ownsRow_nil _ _ _ _, HF0.out⟩
    · have d0 : decide ((j : Int) < 0) = false := by rw [decide_eq_false_iff_not]; omega
      have d1 : decide (C.rs.length ≤ j) = true := by simpa using hle
      have d2 : decide ((C.rs.length : Int) ≤ (j : Int)) = true := by rw [decide_eq_true_eq]; omega
      clear hs
      go_enter Tryz.func26, Tryz.ntmps26
      go_wp2_with fail
      go_ret
      exact ⟨none, 0, rfl, World.ownsRow_nil _ _ _ _, HF0.out⟩
  · obtain ⟨j, rfl, hlt⟩ := isSecB_true hs
    rw [if_pos rfl, Int.toNat_natCast, rs_at hlt]
    have hbr := hb _ (List.getElem_mem hlt)
    have hr := h.each _ (List.getElem_mem hlt)
    obtain ⟨g, o, hA, q0, q1, q2, q3, q4, q5⟩ := rd_ro (h.rts.fr HF0.out fun _ _ => id) hlt
    rw [← locks_ref]
    have d0 : decide ((j : Int) < 0) = false := by rw [decide_eq_false_iff_not]; omega
    have d1 : decide (C.rs.length ≤ j) = false := by rw [decide_eq_false_iff_not]; omega
    have d2 : decide ((C.rs.length : Int) ≤ (j : Int)) = false := by rw [decide_eq_false_iff_not]; omega
    have i1 : (0 : Int) ≤ (j : Int) := by omega
    have i2 : (j : Int) < (C.rs.length : Int) := by omega
    clear hs h hb
    generalize C.rs[j] = r at *
    clear hlt
    have hraw : rawR r.rt = r.path.map St.sec ++ r.flank.map Nd.sec ++ r.over := rfl
    rw [hraw]
    clear hraw
    obtain ⟨en, ex, a1, k1, path, a2, k2, flank, a3, k3, over, sh⟩ := r
    have h1 := hr.path
    have h2 := hr.flank
    have h3 := hr.over
    have hb1 := hr.b1
    clear hr
    dsimp only at *
    have KS := fun W (f : Fr (fun _ => False) w W) => secsL_any (c := k1) path W (h1.fr f fun _ _ => id) (by omega)
    simp only [secsL_map] at KS
    obtain ⟨i0, hi0, hz0, hz1, hz2⟩ := info_parts Tryz.infoI6
    rw [hA] at HF0 q0 q1 q2 q3 q4 q5
    rw [hA]
    clear hA
    go_enter Tryz.func26, Tryz.ntmps26
    go_wp2_with fail
    have FA := Lib.hid (HF0.out.alloc (.cells #[.int .i64 en, .int .i64 ex, .slice a1 path.length k1, .slice a2 flank.length k2, .slice a3 over.length k3, .bool sh] 74))
    have isr0 := Is.new (w.alloc (.cells #[.slice C.A1 C.l.length C.c1, .slice C.A2 C.js.length C.c2, .slice C.A3 C.sg.length C.c3, .slice C.A4 C.cr.length C.c4, .slice (some ⟨g, o, none⟩) C.rs.length C.c5, .int .i64 C.tm.age, .int .i64 C.tm.brake, .int .i64 C.tm.hold, .int .i64 C.tm.budget] 30)) 74 #[.int .i64 en, .int .i64 ex, .slice a1 path.length k1, .slice a2 flank.length k2, .slice a3 over.length k3, .bool sh]
    rw [show (w.alloc (.cells #[.slice C.A1 C.l.length C.c1, .slice C.A2 C.js.length C.c2, .slice C.A3 C.sg.length C.c3, .slice C.A4 C.cr.length C.c4, .slice (some ⟨g, o, none⟩) C.rs.length C.c5, .int .i64 C.tm.age, .int .i64 C.tm.brake, .int .i64 C.tm.hold, .int .i64 C.tm.budget] 30)).heap.size = w.heap.size + 1 by simp] at isr0
    refine (KS _ FA.out).mono ?_
    clear KS
    rintro e w2 ⟨A1, c1, rfl, own2, f2⟩
    have F2 := fr_nil FA.out f2
    have isr2 := isr0.fr f2 id
    have own3 : w2.ownsRow w.heap.size 3 1 (.slice A1 (path.map St.sec).length c1) (path.map St.sec).length ((path.map St.sec).map (Value.int .i64)) := wide_base own2 (by simp; omega)
    obtain ⟨r0, r1, r2, r3, r4, r5⟩ := ro_cells (r := ⟨en, ex, a1, k1, path, a2, k2, flank, a3, k3, over, sh⟩) isr2
    have hml : (path.map St.sec).length = path.length := List.length_map _
    generalize path.map St.sec = M at *
    clear own2 f2 FA HF0 isr0 q0 q1 q2 q3 q4 q5 d0 d1 d2 i1 i2
    go_wp2_with fail
    clear r0 r1 r2 r3 r4 r5
    go_loopg [6, 8, 34] flank.length (fun gi v6 _ v34 wr => ∃ (i : Nat) (L : List Int) (A : Option Addr) (c : Nat), i ≤ flank.length ∧ gi = flank.length - i ∧ v34 = .int .i64 (i : Nat) ∧ v6 = .slice A L.length c ∧ Hid (L = M ++ (flank.take i).map Nd.sec) ∧
        wr.ownsRow w.heap.size 3 1 (.slice A L.length c) L.length (L.map (Value.int .i64)) ∧ Is wr (w.heap.size + 1) 74 #[.int .i64 en, .int .i64 ex, .slice a1 path.length k1, .slice a2 flank.length k2, .slice a3 over.length k3, .bool sh] ∧ Fr (fun _ => False) w wr)
    case atStart => exact ⟨0, M, A1, c1, Nat.zero_le _, rfl, rfl, by rw [hml], Lib.hid (by simp), own3, isr2, F2⟩
    case round =>
      clear own3 isr2 F2
      obtain ⟨i, L, A, c, hi, rfl, rfl, rfl, HL, hown, isr, F⟩ := hrel
      have hLl : L.length = M.length + i := by rw [HL.out, List.length_append, List.length_map, List.length_take]; omega
      by_cases hlp : i < flank.length
      · obtain ⟨ga, oa, ha, q0, q1⟩ := rd_nd (h2.fr F fun _ _ => id) hlp
        have HTS := Lib.hid (take_snoc_map Nd.sec hlp)
        have hLn : (L.length + 1) * 8 ≤ 140737488355328 := by omega
        have i1 : (0 : Int) ≤ (i : Int) := by omega
        have i2 : (i : Int) < (flank.length : Int) := by omega
        clear hLl
        generalize flank[i] = v at *
        have hlo := World.ownsRow.lt hown
        rw [ha]
        have HA := Lib.hid ha
        clear ha
        go_wp2_with (at_builtin; refine wpList_append_wide _ rfl (.tmp 38) (.tmp 41) 25 rfl w.heap.size 3 i0 _ 1 8 Tryz.underlying25 hi0 hz0 hz1 hz2 rfl (by decide) (.slice A L.length c) L.length (L.map (Value.int .i64)) rfl ((hown.alloc _).alloc _) (some ⟨wr.heap.size + 1, 0, none⟩) 1 1 ([.int .i64 v.sec]) rfl rfl (lit_rd_at (by simp) _ _) (by simp [Value.oneCell']) (by unfold maxLen; omega) (by omega) (Nat.le_trans F.size (by simp; omega)) ?_; intro v6 w6 hown6 hg6 hat6; obtain ⟨A6, c6, rfl, _, _, _, _⟩ := wide_form hown6)
        have f7 := (Fr.refl (fun j => (Value.slice A L.length c).ownBlock = some j) _).grown hg6 fun j hj => .inl hj
        have isr6 := ((isr.alloc (.cells #[.int .i64 v.sec, .int .i64 v.pos] 109)).alloc (.cells #[.int .i64 v.sec] 3)).fr f7 (wide_is_ne hown isr (by decide))
        have F6 := ((F.alloc (.cells #[.int .i64 v.sec, .int .i64 v.pos] 109)).alloc (.cells #[.int .i64 v.sec] 3)).grown hg6 fun j hj => .inr (hlo j hj).1
        clear f7 hg6 hat6 hlo q0 q1
        go_wp2_with fail
        rw [← HA.out]
        go_roundg (flank.length - (i + 1))
        case measure => omega
        case rel => exact ⟨i + 1, L ++ [v.sec], A6, c6, by omega, rfl, by go_num, by rw [List.length_append]; rfl, Lib.hid (by rw [HTS.out, HL.out, List.append_assoc]), by rw [List.length_append, List.map_append]; exact hown6, isr6, F6⟩
      · obtain rfl : i = flank.length := by omega
        have hL := HL.out
        rw [List.take_length] at hL
        have hLb : L.length + over.length ≤ 8796093022208 := by omega
        have HLL := Lib.hid hL
        rw [← hL]
        clear hL
        obtain ⟨r0, r1, r2, r3, r4, r5⟩ := ro_cells (r := ⟨en, ex, a1, k1, path, a2, k2, flank, a3, k3, over, sh⟩) isr
        have hlo := World.ownsRow.lt hown
        clear HL hLl
        go_upto_region 11 with (at_builtin; refine wpList_append_wide _ rfl (.tmp 44) (.tmp 46) 25 rfl w.heap.size 3 i0 _ 1 8 Tryz.underlying25 hi0 hz0 hz1 hz2 rfl (by decide) (.slice A L.length c) L.length (L.map (Value.int .i64)) rfl hown (a3) k3 over.length (over.map (Value.int .i64)) (by simp) rfl (h3.fr F fun _ _ => id) (fun u hu => by obtain ⟨x, _, rfl⟩ := List.mem_map.1 hu; rfl) (by unfold maxLen; omega) (by omega) (F.size) ?_; intro v7 w7 hown7 hg7 hat7; obtain ⟨A7, c7, rfl, _, _, _, _⟩ := wide_form hown7)
        have F7 := F.grown hg7 fun j hj => .inr (hlo j hj).1
        rw [← List.length_append, ← List.map_append] at hown7
        have hALL : (L ++ over).length ≤ 8796093022208 := by rw [List.length_append]; exact hLb
        rw [show L.length + over.length = (L ++ over).length by rw [List.length_append]]
        generalize hR : insAll [] (L ++ over) = R
        have HR := Lib.hid hR
        have HPOST : Hid (insAll [] (M ++ flank.map Nd.sec ++ over) = R) := Lib.hid (by rw [← HLL.out]; exact hR)
        clear hR
        generalize L ++ over = X at *
        clear hown F r0 r1 r2 r3 r4 r5 isr hlo hg7 hat7 hLb
        go_wp2_with fail
        go_loopg [9, 11, 12, 13, 50] X.length (fun gi v9 _ _ _ v50 wr => ∃ (i : Nat) (O : List Int) (B : Option Addr) (d : Nat), i ≤ X.length ∧ gi = X.length - i ∧ v50 = .int .i64 (i : Nat) ∧ v9 = .slice B O.length d ∧ Hid (insAll O (X.drop i) = R) ∧ Hid (O.length ≤ i) ∧
            wr.ownsRow w.heap.size 3 1 (.slice B O.length d) O.length (O.map (Value.int .i64)) ∧ wr.ownsRow w.heap.size 3 1 (.slice A7 X.length c7) X.length (X.map (Value.int .i64)) ∧ Fr (fun _ => False) w wr)
        case atStart => exact ⟨0, [], none, 0, Nat.zero_le _, rfl, rfl, rfl, HR, Lib.hid (Nat.le_refl _), World.ownsRow_nil _ _ _ _, hown7, F7⟩
        case round =>
          clear HR hown7 F7
          obtain ⟨i, O, B, d, hi, rfl, rfl, rfl, HR, HO, hownO, hownX, F⟩ := hrel
          by_cases hlx : i < X.length
          · obtain ⟨g7, o7, ha, q0⟩ := rd_int (wide_rd hownX) hlx
            have hR := HR.out
            rw [List.drop_eq_getElem_cons hlx, insAll] at hR
            have HR2 := Lib.hid hR
            have i1 : (0 : Int) ≤ (i : Int) := by omega
            have i2 : (i : Int) < (X.length : Int) := by omega
            clear hR HR
            generalize X[i] = x at *
            have hOb : O.length ≤ 8796093022208 := by have := HO.out; omega
            have KI := rin_any (c := d) O x wr (wide_rd hownO) (by omega)
            have HA := Lib.hid ha
            cases hin : inL O x
            rotate_left
            · rw [hin] at KI
              have hR3 : insAll O (X.drop (i + 1)) = R := by
                rw [← HR2.out]
                congr 1
                unfold insL
                rw [if_pos hin]
              have HR := Lib.hid hR3
              clear hR3 hin
              rw [ha]
              clear ha
              go_wp2_with fail
              refine KI.mono ?_
              clear KI
              rintro e w8 ⟨rfl, f8⟩
              have F8 := fr_nil F f8
              have ownO8 := wide_fr hownO f8 fun _ _ => id
              have ownX8 := wide_fr hownX f8 fun _ _ => id
              clear q0 hownO hownX F f8
              go_wp2_with fail
              rw [← HA.out]
              go_roundg (X.length - (i + 1))
              case measure => omega
              case rel => exact ⟨i + 1, O, B, d, by omega, rfl, by go_num, rfl, HR, Lib.hid (by have := HO.out; omega), ownO8, ownX8, F8⟩
            · rw [hin] at KI
              have hR3 : insAll (O.take (slotL O x O.length) ++ x :: O.drop (slotL O x O.length)) (X.drop (i + 1)) = R := by
                rw [← HR2.out]
                congr 1
                unfold insL
                rw [if_neg (by rw [hin]; decide)]
              have HR := Lib.hid hR3
              clear hR3 hin
              rw [ha]
              clear ha
              go_wp2_with fail
              refine KI.mono ?_
              clear KI
              rintro e w8 ⟨rfl, f8⟩
              have F8 := fr_nil F f8
              have ownO8 := wide_fr hownO f8 fun _ _ => id
              have ownX8 := wide_fr hownX f8 fun _ _ => id
              clear q0 hownO hownX F f8
              go_upto_block 4 with fail
              go_cut [12] from 59 to 72 (fun v12 wx => v12 = .int .i64 (slotL O x O.length : Nat) ∧ wx = w8)
              case first =>
                go_wp2_with fail
                go_loopg [12] O.length (fun gi v12 wy => ∃ a : Nat, a ≤ O.length ∧ gi = a ∧ v12 = .int .i64 (a : Nat) ∧ Hid (slotL O x a = slotL O x O.length) ∧ wy = w8)
                case atStart => exact ⟨O.length, Nat.le_refl _, rfl, rfl, Lib.hid rfl, rfl⟩
                case round =>
                  obtain ⟨a, hal, hgi, rfl, HS, rfl⟩ := hrel
                  replace hgi := hgi.symm
                  subst hgi
                  rcases a with _ | a
                  · go_wp2_with fail
                    go_meet
                    exact ⟨by rw [← HS.out]; rfl, rfl⟩
                  · obtain ⟨gb, ob, hB, z0⟩ := rd_int (wide_rd ownO8) (show a < O.length by omega)
                    have hS := HS.out
                    rw [slotL, List.getD_eq_getElem?_getD, List.getElem?_eq_getElem (by omega), Option.getD_some] at hS
                    have e1 : ((a + 1 : Nat) : Int) - 1 = (a : Int) := by omega
                    have j0 : (0 : Int) < ((a + 1 : Nat) : Int) := by omega
                    have j1 : (0 : Int) ≤ (a : Int) := by omega
                    have j2 : (a : Int) < (O.length : Int) := by omega
                    have j3 : decide ((0 : Int) < ((a + 1 : Nat) : Int)) = true := decide_eq_true j0
                    generalize O[a] = y at *
                    by_cases hxy : x < y
                    · have d9 : decide (x < y) = true := decide_eq_true hxy
                      rw [if_pos hxy] at hS
                      have HS2 := Lib.hid hS
                      rw [hB]
                      have HB := Lib.hid hB
                      clear hS HS hxy hB
                      go_wp2_with fail
                      rw [← HB.out]
                      go_roundg a
                      case measure => omega
                      case rel => exact ⟨a, by omega, rfl, by go_num, HS2, rfl⟩
                    · have d9 : decide (x < y) = false := decide_eq_false hxy
                      rw [if_neg hxy] at hS
                      have HS2 := Lib.hid hS
                      rw [hB]
                      have HB := Lib.hid hB
                      clear hS HS hxy hB
                      go_wp2_with fail
                      rw [← HB.out]
                      go_meet
                      exact ⟨by rw [← HS2.out], rfl⟩
              case rest =>
                obtain ⟨rfl, rfl⟩ := hcut
                have hal : slotL O x O.length ≤ O.length := slotL_le _ _ _
                generalize slotL O x O.length = a at hal HR ⊢
                obtain ⟨B2, d2, hc1, rdH⟩ := cut_head ownO8 a hal
                obtain ⟨B3, d3, hc2, rdT⟩ := cut_tail ownO8 a hal
                rw [← List.map_take] at rdH
                rw [← List.map_drop] at rdT
                have HC2 := Lib.hid hc2
                have hlX := World.ownsRow.lt ownX8
                clear hc2
                have hLD : (O.drop a).length = O.length - a := List.length_drop
                go_upto_region 21 with (at_builtin; refine wpList_append_wide _ rfl (.tmp 72) (.tmp 75) 25 rfl wc.heap.size 3 i0 _ 1 8 Tryz.underlying25 hi0 hz0 hz1 hz2 rfl (by decide) (.slice none 0 0) 0 ([]) rfl (World.ownsRow_nil _ _ _ _) (B2) d2 a ((O.take a).map (Value.int .i64)) (by rw [List.length_map, List.length_take]; omega) rfl (rdH) (fun u hu => by obtain ⟨y, _, rfl⟩ := List.mem_map.1 hu; rfl) (by unfold maxLen; omega) (by omega) (Nat.le_refl _) ?_; intro v5 w5 own5 hg5 hat5; rw [Nat.zero_add] at own5; obtain ⟨A5, c5, rfl, _, _, _, _⟩ := wide_form own5)
                have hlo5 := World.ownsRow.lt own5
                have f5 : Fr (fun j => wc.heap.size ≤ j) wc w5 := (Fr.refl _ wc).grown hg5 fun j hj => by cases hj
                rw [List.nil_append] at own5
                have hz5 := f5.size
                clear hg5 hat5 hc1 rdH
                go_upto_region 22 with (at_builtin; refine wpList_append_wide _ rfl (.tmp 77) (.tmp 79) 25 rfl wc.heap.size 3 i0 _ 1 8 Tryz.underlying25 hi0 hz0 hz1 hz2 rfl (by decide) (.slice A5 a c5) a ((O.take a).map (Value.int .i64)) rfl (own5.alloc _) (some ⟨w5.heap.size, 0, none⟩) 1 1 ([.int .i64 x]) rfl rfl (lit_rd_at rfl _ _) (by simp [Value.oneCell']) (by unfold maxLen; omega) (by omega) (Nat.le_trans hz5 (by simp)) ?_; intro v6 w6 own6 hg6 hat6; obtain ⟨A6, c6, rfl, _, _, _, _⟩ := wide_form own6)
                have hlo6 := World.ownsRow.lt own6
                have f6 : Fr (fun j => wc.heap.size ≤ j) wc w6 := (f5.alloc (.cells #[.int .i64 x] 3)).grown hg6 fun j hj => .inl (hlo5 j hj).1
                have hz6 := f6.size
                have rdT6 := rd_low rdT f6 fun k hk => by omega
                have hc3 := HC2.out
                clear own5 hlo5 f5 hz5 hg6 hat6 rdT
                go_upto_region 23 with (at_builtin; refine wpList_append_wide _ rfl (.tmp 81) (.tmp 84) 25 rfl wc.heap.size 3 i0 _ 1 8 Tryz.underlying25 hi0 hz0 hz1 hz2 rfl (by decide) (.slice A6 (a + 1) c6) (a + 1) ((O.take a).map (Value.int .i64) ++ [.int .i64 x]) rfl own6 (B3) d3 (O.length - a) ((O.drop a).map (Value.int .i64)) (by rw [List.length_map, List.length_drop]; omega) rfl (rdT6) (fun u hu => by obtain ⟨y, _, rfl⟩ := List.mem_map.1 hu; rfl) (by unfold maxLen; omega) (by omega) (hz6) ?_; intro v9 w9 own9 hg9 hat9; obtain ⟨A9, c9, rfl, _, _, _, _⟩ := wide_form own9)
                have f9 : Fr (fun j => wc.heap.size ≤ j) wc w9 := f6.grown hg9 fun j hj => .inl (hlo6 j hj).1
                have hnl : a + 1 + (O.length - a) = (O.take a ++ x :: O.drop a).length := by rw [List.length_append, List.length_cons, List.length_take, List.length_drop]; omega
                have hxs : (O.take a).map (Value.int .i64) ++ [Value.int .i64 x] ++ (O.drop a).map (Value.int .i64) = (O.take a ++ x :: O.drop a).map (Value.int .i64) := by rw [List.map_append, List.map_cons, List.append_assoc]; rfl
                rw [hnl, hxs] at own9
                have HNL := Lib.hid hnl
                have hO2 : (O.take a ++ x :: O.drop a).length ≤ i + 1 := by rw [← hnl]; have := HO.out; omega
                have HO2 := Lib.hid hO2
                have ownN := wide_base own9 F8.size
                have ownX9 := wide_fr ownX8 f9 fun k hk => by have := (hlX k hk).2; omega
                have F9 : Fr (fun _ => False) w w9 := F8.trans f9 fun k hk h => by have := F8.size; omega
                clear own6 hlo6 f6 hz6 hg9 hat9 rdT6 HC2 hc3 hnl hxs hO2 own9 f9 hLD
                go_wp2_with fail
                rw [← HA.out]
                go_roundg (X.length - (i + 1))
                case measure => omega
                case rel => exact ⟨i + 1, O.take a ++ x :: O.drop a, A9, c9, by omega, rfl, by go_num, by rw [← HNL.out], HR, HO2, ownN, ownX9, F9⟩
          · obtain rfl : i = X.length := by omega
            have hR := HR.out
            rw [List.drop_length] at hR
            have hR : O = R := hR
            go_wp2_with fail
            go_ret
            rw [HPOST.out, ← hR]
            exact ⟨B, d, rfl, hownO, F⟩
end Go.Proofs.YtginfnbdnkgjbaaGreat


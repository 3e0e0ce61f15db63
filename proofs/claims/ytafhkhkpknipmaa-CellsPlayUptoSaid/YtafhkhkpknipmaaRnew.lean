/- The document's New. -/
import Derived.Test.YtafhkhkpknipmaaRarm
namespace Go.Proofs.Ytafhkhkpknipmaa
open Go.RowKit Go.Maps

theorem rmk_bytes0 (n : Nat) (hn : n ≤ 140737488355328) (W : World) : (Instr.makeSlice 53 (.int .i64 (n : Int)) (.int .i64 (n : Int))).run Try.prog W = .ok (.slice (some ⟨W.heap.size, 0, none⟩) n n) (W.alloc (.cells (List.replicate n (Value.int .u8 0)).toArray 5)) := by
  obtain ⟨i0, hi, hz0, hz1, hz2⟩ := info_parts Try.infoB
  have h := run_make (P := Try.prog) W 53 5 i0 (.int .u8 0) Try.underlying53 hi hz0 .i64 .i64 n n (by omega) (by omega) (by rw [hz2]; omega) (by omega)
  have e : madeCells (Value.int .u8 0).cells n = (List.replicate n (Value.int .u8 0)).toArray := by
    apply Array.ext'
    rw [← toList_madeCells_one]
    rfl
  simpa [hz1, e] using h
theorem rmk_bytes (n : Nat) (hn : n ≤ 140737488355328) (W : World) : (Instr.makeSlice 53 (.int .i64 (n : Int)) (.int .i64 (n : Int))).run Try.prog W = .ok (.slice (some ⟨W.heap.size, 0, none⟩) n n) (W.alloc (.cells (Array.replicate n (Value.int .u8 0)) 5)) := by
  have h := rmk_bytes0 n hn W
  rw [List.toArray_replicate] at h
  exact h

theorem Try.infoRow : (Try.prog.info? 53).map (fun i => (i.zero, i.size, i.bytes)) = some (some (.slice none 0 0), 1, 24) := by kernel_rfl
/-- the cells of a row of pages -/
def pagesC (g : Nat → Nat) (k : Nat) : List Value := (List.range k).map fun p => .slice (some ⟨g p, 0, none⟩) 4096 4096
theorem pagesC_one (g : Nat → Nat) (k : Nat) : ∀ u ∈ pagesC g k, u.oneCell' = true := by
  intro u hu
  obtain ⟨p, _, rfl⟩ := List.mem_map.1 hu
  rfl
theorem pagesC_length (g : Nat → Nat) (k : Nat) : (pagesC g k).length = k := by simp [pagesC]
theorem pagesC_snoc (g : Nat → Nat) (k b : Nat) : pagesC (fun p => if p = k then b else g p) (k + 1) = pagesC g k ++ [.slice (some ⟨b, 0, none⟩) 4096 4096] := by
  unfold pagesC
  rw [List.range_succ, List.map_append]
  congr 1
  · apply List.map_congr_left
    intro p hp
    have : p < k := by simpa using hp
    simp only
    rw [if_neg (by omega)]
  · simp

/-- how far a new memory has come: k pages -/
structure NewS (w0 w : World) (mb wb k : Nat) (g : Nat → Nat) (A : Option Addr) (c : Nat) : Prop where
  is : Is w mb 57 #[.slice A k c, .slice (some ⟨wb, 0, none⟩) 24 24, .slice none 0 0, .int .i64 0, .int .i64 0, .bool false]
  row : w.ownsRow 0 53 1 (.slice A k c) k (pagesC g k)
  page : ∀ p, p < k → RowP w (g p) (fun _ => 255)
  lo : ∀ p, p < k → w0.heap.size ≤ g p
  inj : ∀ p q, p < k → q < k → g p = g q → p = q
  wear : RowW w wb (fun _ => 0)
  wlo : w0.heap.size ≤ wb ∧ w0.heap.size ≤ mb
  alo : ∀ j, blk A = some j → w0.heap.size ≤ j
  fr : Fr (fun _ => False) w0 w
theorem NewS.done {w0 w : World} {mb wb : Nat} {g : Nat → Nat} {A : Option Addr} {c : Nat} (h : NewS w0 w mb wb 24 g A c) : ∃ R : Rf, R.b = mb ∧ RM w R Mm.new ∧ (∀ j, R.all j → w0.heap.size ≤ j) ∧ R.l = [] := by
  rcases h.row.2 with ⟨_, h0⟩ | ⟨ob, cap, cur, hv, _, hg, hnc, hm, hs, ht⟩
  · cases h0
  · have hA : A = some ⟨ob, 0, none⟩ := by injection hv
    have hc : c = cap := by injection hv
    subst hA hc
    refine ⟨⟨mb, wb, ob, c, g, none, 0, []⟩, rfl, ⟨h.is, ⟨cur, hg, fun p hp => ?_⟩, fun p hp => h.page p hp, h.wear, fun h0 => by simp [cutCells] at h0, fun k hk => (by cases hk), h.inj, fun _ i => rfl, Nat.le_refl _, by show 0 ≤ _; omega, by simp, fun j hj => ?_⟩, fun j hj => ?_, rfl⟩
    · show cur[p]? = some (.slice (some ⟨g p, 0, none⟩) 4096 4096)
      have : (cur.toList.take (24 * 1))[p]? = (pagesC g 24)[p]? := by rw [ht]
      rw [List.getElem?_take, if_pos (by omega), Array.getElem?_toList] at this
      rw [this]
      simp [pagesC, hp]
    · rcases hj with hj | hj | hj | ⟨p, hp, hj⟩ | hj
      · rw [hj]; exact h.is.lt
      · rw [hj]; exact h.wear.lt
      · rw [hj]; exact lt_of_block hg
      · rw [hj]; exact (h.page p hp).lt
      · cases hj
    · rcases hj with hj | hj | hj | ⟨p, hp, hj⟩ | hj
      · rw [hj]; exact h.wlo.2
      · rw [hj]; exact h.wlo.1
      · rw [hj]; exact h.alo ob rfl
      · rw [hj]; exact h.lo p hp
      · cases hj

/-- a page of which the first j bytes are laid bare -/
def RowK (w : World) (b j : Nat) : Prop := ∃ cs, Is w b 5 cs ∧ cs.size = 4096 ∧ ∀ i, i < j → cs[i]? = some (B 255)
theorem NewS.old {w0 w w1 : World} {mb wb k : Nat} {g : Nat → Nat} {A : Option Addr} {c : Nat} (h : NewS w0 w mb wb k g A c) (f : Fr (fun _ => False) w w1) : NewS w0 w1 mb wb k g A c :=
  ⟨h.is.fr f id, wide_fr h.row f fun _ _ => id, fun p hp => (h.page p hp).fr f id, h.lo, h.inj, h.wear.fr f id, h.wlo, h.alo, h.fr.trans f fun _ _ k => k⟩
theorem NewS.side {w0 w w1 : World} {mb wb k gb : Nat} {g : Nat → Nat} {A : Option Addr} {c : Nat} {cs : Array Value} (h : NewS w0 w mb wb k g A c) (f : Fr (fun j => j = gb) w w1) (hb : Is w gb 5 cs) (hg : ∀ p, p < k → g p ≠ gb) (h0 : w0.heap.size ≤ gb) : NewS w0 w1 mb wb k g A c := by
  refine ⟨h.is.fr f (is_ne h.is hb (by decide)), wide_fr h.row f fun j hj e => wide_is_ne h.row hb (by decide) (by rw [hj, e]), fun p hp => (h.page p hp).fr f (hg p hp), h.lo, h.inj, ?_, h.wlo, h.alo, h.fr.trans f fun j hj e => by omega⟩
  obtain ⟨ws, r1, r2⟩ := h.wear
  exact ⟨ws, r1.fr f (is_ne r1 hb (by decide)), r2⟩
/-- a page is put behind the others -/
theorem NewS.next {w0 w w1 : World} {mb wb k gb : Nat} {g : Nat → Nat} {A A' : Option Addr} {c c' : Nat} (h : NewS w0 w mb wb k g A c) (hP : RowP w gb (fun _ => 255)) (hg0 : w0.heap.size ≤ gb) (hgn : ∀ p, p < k → g p ≠ gb)
    (hown : w1.ownsRow 0 53 1 (.slice A' (k + 1) c') (k + 1) (pagesC g k ++ [.slice (some ⟨gb, 0, none⟩) 4096 4096])) (hg : (w.alloc (.cells #[.slice (some ⟨gb, 0, none⟩) 4096 4096] 53)).grownBy w1 (Value.slice A k c).ownBlock) (hat : (Value.slice A' (k + 1) c').ownBlock = (Value.slice A k c).ownBlock ∨ (Value.slice A' (k + 1) c').ownBlock = some (w.alloc (.cells #[.slice (some ⟨gb, 0, none⟩) 4096 4096] 53)).heap.size) :
    NewS w0 (w1.setCell ⟨mb, 0, none⟩ (.slice A' (k + 1) c')) mb wb (k + 1) (fun p => if p = k then gb else g p) A' c' ∧ Is w1 mb 57 #[.slice A k c, .slice (some ⟨wb, 0, none⟩) 24 24, .slice none 0 0, .int .i64 0, .int .i64 0, .bool false] := by
  have F : Fr (fun j => (Value.slice A k c).ownBlock = some j) w w1 := ((Fr.refl (fun j => (Value.slice A k c).ownBlock = some j) w).alloc _).grown hg fun j hj => .inl hj
  have hsz : (w.alloc (.cells #[.slice (some ⟨gb, 0, none⟩) 4096 4096] 53)).heap.size = w.heap.size + 1 := by simp
  have tne : ∀ {b : Nat} {t : TypeId} {cs : Array Value}, Is w b t cs → 53 ≠ t → ¬ (Value.slice A k c).ownBlock = some b := fun hi ht => wide_is_ne h.row hi ht
  have I1 := h.is.fr F (tne h.is (by decide))
  have f2 := (Fr.refl (fun j => j = mb) w1).setCell (p := ⟨mb, 0, none⟩) (.inl rfl) (.slice A' (k + 1) c')
  have I2 := I1.set 0 (.slice A' (k + 1) c')
  have rowp : ∀ b f, RowP w b f → RowP (w1.setCell ⟨mb, 0, none⟩ (.slice A' (k + 1) c')) b f := fun b f hr => by
    obtain ⟨cs, r1, r2⟩ := hr
    have e1 := r1.fr F (tne r1 (by decide))
    exact ⟨cs, e1.fr f2 (is_ne e1 I1 (by decide)), r2⟩
  have hal : ∀ j, blk A' = some j → w0.heap.size ≤ j := fun j hj => by
    rw [Row.own, Row.own] at hat
    rcases hat with e | e
    · exact h.alo j (by rw [← e]; exact hj)
    · rw [e] at hj
      injection hj with hj
      have := h.fr.size
      omega
  refine ⟨⟨I2, ?_, fun p hp => ?_, fun p hp => ?_, fun p q hp hq e => ?_, ?_, h.wlo, hal, ?_⟩, I1⟩
  · rw [pagesC_snoc]
    exact wide_fr hown f2 fun j hj e => (wide_is_ne hown I1 (by decide)) (by rw [hj, e])
  · by_cases e : p = k
    · rw [if_pos e]; exact rowp _ _ hP
    · rw [if_neg e]; exact rowp _ _ (h.page p (by omega))
  · by_cases e : p = k
    · rw [if_pos e]; exact hg0
    · rw [if_neg e]; exact h.lo p (by omega)
  · by_cases e1 : p = k
    · by_cases e2 : q = k
      · omega
      · rw [if_pos e1, if_neg e2] at e
        exact absurd e.symm (hgn q (by omega))
    · by_cases e2 : q = k
      · rw [if_neg e1, if_pos e2] at e
        exact absurd e (hgn p (by omega))
      · rw [if_neg e1, if_neg e2] at e
        exact h.inj p q (by omega) (by omega) e
  · obtain ⟨cs, r1, r2⟩ := h.wear
    have e1 := r1.fr F (tne r1 (by decide))
    exact ⟨cs, e1.fr f2 (is_ne e1 I1 (by decide)), r2⟩
  · refine (h.fr.trans (F.mono (S' := fun j => w0.heap.size ≤ j) fun j _ hj => ?_) fun j hj0 hj => ?_).trans f2 fun j hj0 hj => ?_
    · rw [Row.own] at hj; exact h.alo j hj
    · omega
    · have := h.wlo.2
      omega

set_option maxRecDepth 10000 in
set_option maxHeartbeats 8000000 in
theorem rnew_any (w : World) : Calls Try.prog 11 #[] w fun e w' => ∃ R : Rf, e = .returned (.pointer (some ⟨R.b, 0, none⟩)) ∧ RM w' R Mm.new ∧ Fr (fun _ => False) w w' ∧ (∀ j, R.all j → w.heap.size ≤ j) ∧ R.l = [] := by
  have hmk : ∀ W, (Instr.makeSlice 55 (.int .i64 24) (.int .i64 24)).run Try.prog W = .ok (.slice (some ⟨W.heap.size, 0, none⟩) 24 24) (W.alloc (.cells (Array.replicate 24 (.int .i64 0)) 3)) := fun W => by kernel_rfl
  go_enter Try.func11, Try.ntmps11
  go_wp2_with fail
  clear hmk
  have S0 : NewS w ((w.alloc (.cells (Array.replicate 24 (.int .i64 0)) 3)).alloc (.cells #[.slice none 0 0, .slice (some ⟨w.heap.size, 0, none⟩) 24 24, .slice none 0 0, .int .i64 0, .int .i64 0, .bool false] 57)) (w.heap.size + 1) w.heap.size 0 (fun _ => 0) none 0 := by
    have hsz : (w.alloc (.cells (Array.replicate 24 (.int .i64 0)) 3)).heap.size = w.heap.size + 1 := by simp
    have hi := Is.new (w.alloc (.cells (Array.replicate 24 (.int .i64 0)) 3)) 57 #[.slice none 0 0, .slice (some ⟨w.heap.size, 0, none⟩) 24 24, .slice none 0 0, .int .i64 0, .int .i64 0, .bool false]
    rw [hsz] at hi
    exact ⟨hi, World.ownsRow_nil _ _ _ _, fun p hp => by omega, fun p hp => by omega, fun p q hp => by omega, ⟨_, (Is.new w 3 (Array.replicate 24 (.int .i64 0))).alloc _, by simp, fun p hp => by simp [hp]⟩, ⟨Nat.le_refl _, by omega⟩, fun j hj => (by cases hj), ((Fr.refl _ w).alloc _).alloc _⟩
  have HS0 := Lib.hid S0
  clear S0
  obtain ⟨mb, hmb⟩ : ∃ mb, mb = w.heap.size + 1 := ⟨_, rfl⟩
  rw [← hmb]
  rw [← hmb] at HS0
  clear hmb
  go_loopw [2] (fun i wr => ∃ k : Nat, k ≤ 24 ∧ i = .int .i64 k ∧ ∃ g A c, NewS w wr mb w.heap.size k g A c) (fun i _ => 24 - (intOf i).toNat)
  case atStart => exact ⟨0, Nat.zero_le _, rfl, _, _, _, HS0.out⟩
  case round =>
    clear HS0
    obtain ⟨k, hk, rfl, g, A, c, hS⟩ := hrel
    obtain ⟨wo, hwo⟩ : ∃ wo : World, wo = wr := ⟨_, rfl⟩
    subst hwo
    by_cases hlt : k < 24
    · have HS := Lib.hid hS
      have hmk : ∀ W, (Instr.makeSlice 53 (.int .i64 4096) (.int .i64 4096)).run Try.prog W = .ok (.slice (some ⟨W.heap.size, 0, none⟩) 4096 4096) (W.alloc (.cells (Array.replicate 4096 (Value.int .u8 0)) 5)) := fun W => rmk_bytes 4096 (by decide) W
      have hmbw := hS.is.lt
      clear hS
      go_wp2_with fail
      clear hmk
      have P0 : RowK (wo.alloc (.cells (Array.replicate 4096 (Value.int .u8 0)) 5)) wo.heap.size 0 := ⟨_, Is.new wo _ _, by simp, fun i hi => by omega⟩
      have HP0 := Lib.hid P0
      have P1 : RowP (wo.alloc (.cells (Array.replicate 4096 (Value.int .u8 0)) 5)) wo.heap.size (fun _ => 0) := ⟨_, Is.new wo _ _, by simp, fun i hi => by simp [hi, B]⟩
      have HP1 := Lib.hid P1
      have hw0 : w.heap.size ≤ wo.heap.size := HS.out.fr.size
      have hgn : ∀ p, p < k → g p ≠ wo.heap.size := fun p hp e => by have := (HS.out.page p hp).lt; omega
      have hmg : mb ≠ wo.heap.size := by omega
      have HS1 := Lib.hid (HS.out.old ((Fr.refl (fun _ => False) wo).alloc (.cells (Array.replicate 4096 (Value.int .u8 0)) 5)))
      have HG := Lib.hid hgn
      clear P0 P1 HS hgn
      generalize wo.alloc (.cells (Array.replicate 4096 (Value.int .u8 0)) 5) = w1 at *
      generalize wo.heap.size = gb at *
      go_loopw [4, 15] (fun _ i wr => ∃ j : Nat, j ≤ 4096 ∧ i = .int .i64 j ∧ RowK wr gb j ∧ Fr (fun k => k = gb) w1 wr) (fun _ i _ => 4096 - (intOf i).toNat)
      case atStart => exact ⟨0, Nat.zero_le _, rfl, HP0.out, Fr.refl _ _⟩
      case round =>
        obtain ⟨j, hj, rfl, hR, hF⟩ := hrel
        clear HP0
        obtain ⟨w2, hw2⟩ : ∃ w2 : World, w2 = wr := ⟨_, rfl⟩
        subst hw2
        by_cases hlt2 : j < 4096
        · obtain ⟨cs, k1, k2, k3⟩ := hR
          obtain ⟨u, hu⟩ : ∃ u, cs[j]? = some u := ⟨_, Array.getElem?_eq_getElem (by omega)⟩
          have r1 : w2.cell? ⟨gb, j, none⟩ = some u := (k1.cell j).trans hu
          have r2 := k1.frozen j
          have gl := k1.lt
          have HR2 : Hid (RowK (w2.setCell ⟨gb, j, none⟩ (.int .u8 255)) gb (j + 1)) := Lib.hid ⟨_, k1.set j (B 255), by simp [k2], fun i hi => by
            by_cases e : i = j
            · subst e
              rw [Array.getElem?_setIfInBounds_self_of_lt (by omega)]
            · rw [Array.getElem?_setIfInBounds_ne (fun k => e k.symm)]
              exact k3 i (by omega)⟩
          have HF2 := Lib.hid (hF.setCell (p := ⟨gb, j, none⟩) (.inl rfl) (.int .u8 255))
          have d1 : decide ((j : Int) < 4096) = true := by simp; omega
          have d2 : (j : Int) < 4096 := by omega
          have HJ := Lib.hid hlt2
          clear k1 k2 k3 hu hF hj hlt2
          go_wp2_with fail
          go_roundw
          case rel => exact ⟨j + 1, HJ.out, by go_num, HR2.out, HF2.out⟩
          case measure => have := HJ.out; simp [intOf]; omega
        · have hj4 : j = 4096 := by omega
          subst hj4
          have hP : RowP w2 gb (fun _ => 255) := by
            obtain ⟨cs, k1, k2, k3⟩ := hR
            exact ⟨cs, k1, k2, k3⟩
          obtain ⟨cs, k1, _⟩ := HP1.out
          have S2 := HS1.out.side hF k1 HG.out hw0
          have q0 := S2.is.cell 0
          have qb := S2.is.lt
          have HP := Lib.hid hP
          have HS2 := Lib.hid S2
          have how := (S2.row.alloc (.cells #[.slice (some ⟨gb, 0, none⟩) 4096 4096] 53))
          obtain ⟨i0, hi0, hz0, hz1, hz2⟩ := info_parts Try.infoRow
          have hrd : Rd (w2.alloc (.cells #[.slice (some ⟨gb, 0, none⟩) 4096 4096] 53)) (some ⟨w2.heap.size, 0, none⟩) [.slice (some ⟨gb, 0, none⟩) 4096 4096] := Rd.one _ _ _
          clear hP hR hF k1 S2 hlt2 hj
          go_wp2_with (at_builtin; refine wpList_append_wide _ rfl (.tmp 26) (.tmp 28) 54 rfl 0 53 i0 _ 1 24 Try.underlying54 hi0 hz0 hz1 hz2 rfl (by decide) (.slice A k c) k (pagesC g k) (by simp [Act.eval]) how (some ⟨w2.heap.size, 0, none⟩) 1 1 [.slice (some ⟨gb, 0, none⟩) 4096 4096] rfl (by simp [Act.eval]) hrd (fun u hu => by simp at hu; subst hu; rfl) (by unfold maxLen; omega) (by omega) (Nat.zero_le _) ?_; intro v' w3 hown hg hat; obtain ⟨A', c', rfl, _, _, _, _⟩ := wide_form hown; obtain ⟨S4, I4⟩ := HS2.out.next HP.out hw0 HG.out hown hg hat; have q3 := I4.cell 0; have qf := I4.frozen; have qb3 := I4.lt; have HS4 := Lib.hid S4; clear hown hg hat S4 I4 q0 how hrd)
          go_roundw
          case rel => exact ⟨k + 1, by omega, by go_num, _, _, _, HS4.out⟩
          case measure => simp [intOf]; omega
    · have hk4 : k = 24 := by omega
      subst hk4
      obtain ⟨R, rfl, hR, hlo, hnl⟩ := hS.done
      have HN := Lib.hid hnl
      have HR := Lib.hid hR
      have HL := Lib.hid hlo
      have HF := Lib.hid hS.fr
      clear hS hR hlo hnl
      go_wp2_with fail
      go_ret
      exact ⟨R, rfl, HR.out, HF.out, HL.out, HN.out⟩
end Go.Proofs.Ytafhkhkpknipmaa

/- The contract of the journal's sheets. -/
import Derived.Test.YtdoljggaoidljaaGreatSortf
import Derived.Test.YtdoljggaoidljaaGreatSeen
import Derived.Test.YtdoljggaoidljaaGreatFramed
import Derived.Deep.RegionHeld3
import Derived.Shelf.SlSortCmp.NoneTotal
namespace Go.Proofs.YtdoljggaoidljaaGreat
open Go.RowKit

set_option maxHeartbeats 1000000 in
theorem next_any {w : World} {g o n2 n c : Nat} {A : Option Addr} (c3 : w.cell? ⟨g, o + 3, none⟩ = some (.int .i64 (n2 : Int))) (c4 : w.cell? ⟨g, o + 4, none⟩ = some (.slice A n c)) (h2 : n2 ≤ 4294967296) (hn : n ≤ 4294967296) :
    Calls Tryz.prog 20 #[.pointer (some ⟨g, o, none⟩)] w fun e w' => e = .returned (.int .i64 ((n2 + n : Nat) : Int)) ∧ Fr (fun _ => False) w w' := by
  go_enter Tryz.func20, Tryz.ntmps20
  go_wp2
  go_quiet (fail)
  go_wp2
  go_ret
  exact ⟨by rw [Int.natCast_add]; rfl, (Fr.refl _ _).drewN nq⟩
set_option maxHeartbeats 1000000 in
theorem follows_any {w : World} {g o p i1 f2 n c : Nat} {A : Option Addr} (c2 : w.cell? ⟨g, o + 2, none⟩ = some (.int .i64 ((i1 + 1 : Nat) : Int))) (c3 : w.cell? ⟨g, o + 3, none⟩ = some (.int .i64 ((f2 + n : Nat) : Int)))
    (d2 : w.cell? ⟨g, p + 2, none⟩ = some (.int .i64 (i1 : Int))) (d3 : w.cell? ⟨g, p + 3, none⟩ = some (.int .i64 (f2 : Int))) (d4 : w.cell? ⟨g, p + 4, none⟩ = some (.slice A n c)) (h1 : i1 ≤ 4294967296) (h2 : f2 ≤ 4294967296) (hn : n ≤ 4294967296) :
    Calls Tryz.prog 33 #[.pointer (some ⟨g, o, none⟩), .pointer (some ⟨g, p, none⟩)] w fun e w' => e = .returned (.bool true) ∧ Fr (fun _ => False) w w' := by
  have e1 : ((i1 + 1 : Nat) : Int) = (i1 : Int) + 1 := by omega
  rw [e1] at c2
  have KN : ∀ u : Fro w, Calls Tryz.prog 20 #[.pointer (some ⟨g, p, none⟩)] u.w fun e w' => e = .returned (.int .i64 ((f2 + n : Nat) : Int)) ∧ Fr (fun _ => False) u.w w' := fun u => next_any (cell_fro d3 u) (cell_fro d4 u) h2 hn
  obtain ⟨ff, hff⟩ : ∃ f : Nat, f = f2 + n := ⟨_, rfl⟩
  rw [← hff] at c3 KN
  have q1 : (((i1 : Int) + 1) == ((i1 : Int) + 1)) = true := by simp
  have q2 : ((ff : Int) == (ff : Int)) = true := by simp
  have x2 := cell_fro c2
  have x3 := cell_fro c3
  have y2 := cell_fro d2
  clear c2 c3 d2 d3 d4 hff e1
  go_enter Tryz.func33, Tryz.ntmps33
  go_wp2
  refine region_fro (by kernel_rfl) (by kernel_rfl) ?_
  repeat (go_big_quiet_step (first | (go_at_call 20; with_reducible exact call_fro (KN _))))
  refine wpQuiet_nil ?_
  rintro _ ⟨⟨w4, f4⟩, rfl⟩
  go_wp2
  go_ret
  exact ⟨rfl, f4⟩
theorem lit_rd_at {w : World} {n : Nat} (h : w.heap.size = n) (cs : List Value) (t : TypeId) : Rd (w.alloc (.cells cs.toArray t)) (some ⟨n, 0, none⟩) cs := by
  subst h
  exact lit_rd w cs t
theorem el_cells {W : World} {g : Nat} {Y : List El} (h : Rd W (some ⟨g, 0, none⟩) (elCells Y)) {j : Nat} (hj : j < Y.length) :
    W.cell? ⟨g, j * 6 + 2, none⟩ = some (.int .i64 (Y[j].s.nth : Int)) ∧ W.cell? ⟨g, j * 6 + 3, none⟩ = some (.int .i64 (Y[j].s.first : Int)) ∧ W.cell? ⟨g, j * 6 + 4, none⟩ = some (.slice Y[j].A Y[j].s.recs.length Y[j].c) := by
  obtain ⟨b, o, hA, _, hc⟩ := h (by rw [elCells_length]; omega)
  injection hA with hA
  injection hA with h1 h2
  subst h1 h2
  have k := fun i hi => hc (j * 6 + i) _ ((elCells_at Y j i hj hi).trans (List.getElem?_eq_getElem (by rw [encEl_len]; exact hi)))
  have k2 := k 2 (by decide)
  have k3 := k 3 (by decide)
  have k4 := k 4 (by decide)
  rw [Nat.zero_add] at k2 k3 k4
  exact ⟨k2, k3, k4⟩
theorem readSh_small {t : List UInt8} {s : Jo.Sh} {e : Nat} (h : Jo.readSh t = some (s, e)) : s.nth ≤ 2147483647 ∧ s.first ≤ 2147483647 := by
  unfold Jo.readSh at h
  split at h
  · cases h
  · split at h
    · cases h
    · injection h with h
      injection h with h _
      subst h
      simp only
      omega
theorem Tryz.infoSh : (Tryz.prog.info? 68).map (fun i => (i.zero, i.size, i.bytes)) = some (some zeroSh, 6, 72) := by kernel_rfl
theorem read_page {w : World} {b : Nat} {r : Option Nat} {m : Mm} (h : Mem w b r m) (hd : m.down = false) {p : Nat} (hp : p < 24) :
    Calls Tryz.prog 28 #[.pointer (some ⟨b, 0, none⟩), .int .i64 (p : Int), .int .i64 0, .int .i64 4096] w fun e w' => e = .returned (.tuple #[.string ⟨(cutP (m.pg p) 0 4096).toArray⟩, .int .i64 0]) ∧ w = w' := by
  have hs : m.spotE (p : Int) 0 4096 = 0 := by
    unfold Mm.spotE
    rw [hd, if_neg (by decide), if_neg (by omega), if_neg (by omega)]
  have ht : m.readT (p : Int) 0 4096 = cutP (m.pg p) 0 4096 := by
    unfold Mm.readT
    rw [if_pos hs]
    rfl
  exact read_at h (p : Int) 0 4096 (by omega) (by omega) (by decide) (by decide) (by decide) (by decide) hs ht
/-- sheets in memory of the call's own, each with its records -/
structure Els (w0 w : World) (A : Option Addr) (c : Nat) (X : List El) : Prop where
  own : w.ownsRow w0.heap.size 68 6 (.slice A X.length c) X.length (elCells X)
  recs : ∀ x ∈ X, w.ownsRow w0.heap.size 49 3 (.slice x.A x.s.recs.length x.c) x.s.recs.length (recCells x.s.first x.s.recs)
  nil : X = [] → A = none ∧ c = 0
def prEl (x : El) : Jo.Sh × Nat := (x.s, x.stop)
theorem Els.fr {w0 w w' : World} {A : Option Addr} {c : Nat} {X : List El} (h : Els w0 w A c X) (f : Fr (fun _ => False) w w') : Els w0 w' A c X := ⟨wide_fr h.own f fun _ _ => id, fun x hx => wide_fr (h.recs x hx) f fun _ _ => id, h.nil⟩
/-- what sheets answers -/
def Sheets (w : World) (F : List (Jo.Sh × Nat)) (e : Ending) (w' : World) : Prop :=
  ∃ (A : Option Addr) (c : Nat) (X : List El), e = .returned (.slice A X.length c) ∧ X.map prEl = F ∧ Rd w' A (elCells X) ∧ (∀ x ∈ X, Rd w' x.A (recCells x.s.first x.s.recs) ∧ ∀ g, blk x.A = some g → w.heap.size ≤ g) ∧ (∀ g, blk A = some g → w.heap.size ≤ g) ∧ Fr (fun _ => False) w w'

set_option maxRecDepth 20000 in
set_option maxHeartbeats 8000000 in
theorem sheets_any {w : World} {b : Nat} {r : Option Nat} {m : Mm} (h : Mem w b r m) (hd : m.down = false) {F : List (Jo.Sh × Nat)} (hp : (Jo.found m.pg 24).Perm F) (hs : F.Pairwise (fun x y => x.1.nth < y.1.nth))
    (hch : ∀ i (h1 : i + 1 < F.length), F[i + 1].1.nth = F[i].1.nth + 1 ∧ F[i + 1].1.first = F[i].1.first + F[i].1.recs.length) (hsm : ∀ x ∈ F, x.1.nth ≤ 4294967296 ∧ x.1.first ≤ 4294967296 ∧ x.1.recs.length ≤ 4294967296) :
    Calls Tryz.prog 19 #[.pointer (some ⟨b, 0, none⟩)] w (Sheets w F) := by
  have HM := Lib.hid h
  obtain ⟨i0, hi0, hz0, hz1, hz2⟩ := info_parts Tryz.infoSh
  have hb := h.blt
  clear h
  go_enter Tryz.func19, Tryz.ntmps19
  go_wp2_with fail
  go_loopw [3, 10] (fun list p wr => ∃ (k : Nat) (X : List El) (A : Option Addr) (c : Nat), k ≤ 24 ∧ p = .int .i64 (k : Int) ∧ list = .slice A X.length c ∧ Els w wr A c X ∧ X.map prEl = Jo.found m.pg k ∧ X.length ≤ k ∧ Fr (fun _ => False) w wr) (fun _ p _ => 24 - (intOf p).toNat)
  case atStart => exact ⟨0, [], none, 0, by decide, rfl, rfl, ⟨World.ownsRow_nil _ _ _ _, fun x hx => (by cases hx), fun _ => ⟨rfl, rfl⟩⟩, rfl, Nat.zero_le _, Fr.refl _ _⟩
  case round =>
    obtain ⟨k, X, A, c, hk, rfl, rfl, hE, hX, hl, hF⟩ := hrel
    have HE := Lib.hid hE
    have HX := Lib.hid hX
    have HF := Lib.hid hF
    have HH := Lib.hid (show (Jo.found m.pg 24).Perm F ∧ F.Pairwise (fun x y => x.1.nth < y.1.nth) ∧ (∀ i (h1 : i + 1 < F.length), F[i + 1].1.nth = F[i].1.nth + 1 ∧ F[i + 1].1.first = F[i].1.first + F[i].1.recs.length) ∧ (∀ x ∈ F, x.1.nth ≤ 4294967296 ∧ x.1.first ≤ 4294967296 ∧ x.1.recs.length ≤ 4294967296) from ⟨hp, hs, hch, hsm⟩)
    clear hp hs hch hsm hE hX hF
    by_cases hlt : k < 24
    · have KR := read_page (HM.out.none HF.out) hd hlt
      obtain ⟨tx, htx⟩ : ∃ tx : ByteArray, tx = ⟨(cutP (m.pg k) 0 4096).toArray⟩ := ⟨_, rfl⟩
      have htb : bytesOf tx = cutP (m.pg k) 0 4096 := by rw [htx]; rfl
      have htz : tx.size ≤ 5000 := by rw [← bytesOf_length, htb, cutP_length]; decide
      rw [← htx] at KR
      have KS := fun W => readSheet_any tx htz W
      rw [htb] at KS
      have hone : Jo.found m.pg (k + 1) = Jo.found m.pg k ++ (match Jo.readSh (cutP (m.pg k) 0 4096) with | none => [] | some x => if x.1.nth % 24 = k then [x] else []) := rfl
      clear htx htb
      go_wp2_with fail
      refine KR.mono ?_
      clear KR
      rintro e w' ⟨rfl, rfl⟩
      cases hr : Jo.readSh (cutP (m.pg k) 0 4096) with
      | none =>
        rw [hr] at hone KS
        rw [List.append_nil] at hone
        have HO := Lib.hid hone
        clear hone hr
        go_wp2_with fail
        refine (KS _).mono ?_
        clear KS
        rintro e w2 ⟨rfl, F2⟩
        have HE2 := Lib.hid (HE.out.fr F2)
        have HF2 := Lib.hid (HF.out.trans F2 fun _ _ h => h)
        clear F2 HE HF
        simp only [zeroSh]
        go_wp2_with fail
        go_roundw
        case rel => exact ⟨k + 1, X, A, c, by omega, by go_num, rfl, HE2.out.fr ((Fr.refl _ w2).alloc _), by rw [HO.out]; exact HX.out, by omega, HF2.out.alloc _⟩
        case measure => simp [intOf]; omega
      | some se =>
        obtain ⟨s, stop⟩ := se
        obtain ⟨hsm1, hsm2⟩ := readSh_small hr
        have hsm : s.nth ≤ 4294967296 := by omega
        rw [hr] at hone KS
        have hone' : Jo.found m.pg (k + 1) = Jo.found m.pg k ++ (if s.nth % 24 = k then [(s, stop)] else []) := hone
        have HO := Lib.hid hone'
        have KP := fun W => pageOf_any s.nth (by omega) W
        clear hone hone' hr
        go_wp2_with fail
        refine (KS _).mono ?_
        clear KS
        rintro e w2 ⟨A1, c1, rfl, hown1, F2⟩
        have HE2 := Lib.hid (HE.out.fr F2)
        have HF2 := Lib.hid (HF.out.trans F2 fun _ _ h => h)
        have HO1 := Lib.hid (own_base hown1 HF.out.size)
        clear F2 HE HF hown1
        simp only [shV]
        obtain ⟨o', ho'⟩ : ∃ o, o = s.safe := ⟨_, rfl⟩
        obtain ⟨n1, hn1⟩ : ∃ n, n = s.nth := ⟨_, rfl⟩
        obtain ⟨n2, hn2⟩ : ∃ n, n = s.first := ⟨_, rfl⟩
        obtain ⟨nr, hnr⟩ : ∃ n, n = s.recs.length := ⟨_, rfl⟩
        have henc : encEl ⟨s, stop, A1, c1, hsm⟩ = [.string (safeT o'), .bool o'.isSome, .int .i64 (n1 : Int), .int .i64 (n2 : Int), .slice A1 nr c1, .int .i64 (stop : Int)] := by rw [ho', hn1, hn2, hnr]; rfl
        have HEN := Lib.hid henc
        rw [← hn1] at KP
        have hpage : (n1 % 24 = k ∧ s.nth % 24 = k) ∨ (n1 % 24 ≠ k ∧ s.nth % 24 ≠ k) := by rw [hn1]; omega
        rw [← ho', ← hn1, ← hn2, ← hnr]
        clear henc ho' hn1 hn2 hnr hsm1 hsm2
        generalize safeT o' = st at *
        generalize o'.isSome = sk at *
        have HL1 : Hid (X.length + 1 ≤ maxLen) := Lib.hid (by unfold maxLen; omega)
        have HL2 : Hid ((X.length + 1) * 72 ≤ 140737488355328) := Lib.hid (by omega)
        have HL3 := Lib.hid (elCells_length X)
        have f3 := (Fr.refl (fun _ => False) w2).alloc (.cells #[.string st, .bool sk, .int .i64 (n1 : Int), .int .i64 (n2 : Int), .slice A1 nr c1, .int .i64 (stop : Int)] 68)
        have HE3 := Lib.hid (HE2.out.fr f3)
        have HF3 := Lib.hid (HF2.out.trans f3 fun _ _ h => h)
        have HO3 := Lib.hid (wide_fr HO1.out f3 fun _ _ => id)
        clear f3 HE2 HF2 HO1
        rcases hpage with ⟨p1, p2⟩ | ⟨p1, p2⟩
        · have q1 : (((n1 % 24 : Nat) : Int) == (k : Int)) = true := by rw [p1]; simp
          have HP : Hid (Jo.found m.pg (k + 1) = Jo.found m.pg k ++ [(s, stop)]) := Lib.hid (by rw [HO.out, if_pos p2])
          clear p1 p2 HO
          generalize n1 % 24 = pn at *
          go_wp2_with fail
          refine (KP _).mono ?_
          rintro e w' ⟨rfl, rfl⟩
          go_wp2_with (at_builtin; refine wpList_append_wide _ rfl (.tmp 32) (.tmp 34) 69 rfl w.heap.size 68 i0 _ 6 72 Tryz.underlying69 hi0 hz0 hz1 hz2 rfl (by decide) (.slice A X.length c) X.length (elCells X) rfl (HE3.out.own.alloc _) (some ⟨w2.heap.size + 1, 0, none⟩) 1 1 [.string st, .bool sk, .int .i64 (n1 : Int), .int .i64 (n2 : Int), .slice A1 nr c1, .int .i64 (stop : Int)] rfl rfl (lit_rd_at (by simp) _ _) (by simp [Value.oneCell']) HL1.out HL2.out (Nat.le_trans HF3.out.size (by simp)) ?_; intro v5 w5 hown5 hg5 hat5; obtain ⟨A5, c5, rfl, _, _, _, _⟩ := wide_form hown5; have HO5 := Lib.hid hown5; have HG5 := Lib.hid hg5; clear hown5 hg5 hat5)
          go_wp2_with fail
          go_roundw
          case rel =>
            have f5 := (Fr.refl (fun j => blk A = some j) _).grown HG5.out fun j hj => .inl (by rw [Row.own] at hj; exact hj)
            have E4 := HE3.out.fr ((Fr.refl (fun _ => False) _).alloc (.cells #[.string st, .bool sk, .int .i64 (n1 : Int), .int .i64 (n2 : Int), .slice A1 nr c1, .int .i64 (stop : Int)] 68))
            have R4 := wide_fr HO3.out ((Fr.refl (fun _ => False) _).alloc (.cells #[.string st, .bool sk, .int .i64 (n1 : Int), .int .i64 (n2 : Int), .slice A1 nr c1, .int .i64 (stop : Int)] 68)) fun _ _ => id
            refine ⟨k + 1, X ++ [⟨s, stop, A1, c1, hsm⟩], A5, c5, by omega, by go_num, by rw [List.length_append]; rfl, ⟨?_, fun y hy => ?_, fun e => by simp at e⟩, ?_, by rw [List.length_append, List.length_singleton]; omega, (HF3.out.alloc _).grown HG5.out fun j hj => .inr (World.ownsRow.lt HE3.out.own j hj).1⟩
            · rw [elCells_append, List.length_append, List.length_singleton, show elCells [⟨s, stop, A1, c1, hsm⟩] = encEl ⟨s, stop, A1, c1, hsm⟩ ++ [] from rfl, List.append_nil, HEN.out]
              exact HO5.out
            · have hyr : ∀ (z : El), World.ownsRow (World.alloc _ _) w.heap.size 49 3 (.slice z.A z.s.recs.length z.c) z.s.recs.length (recCells z.s.first z.s.recs) → w5.ownsRow w.heap.size 49 3 (.slice z.A z.s.recs.length z.c) z.s.recs.length (recCells z.s.first z.s.recs) := fun z hz => wide_fr hz f5 fun j hj e => wide_ne hz E4.own (by decide) j hj (by rw [Row.own]; exact e)
              rcases List.mem_append.1 hy with hy | hy
              · exact hyr y (E4.recs y hy)
              · simp only [List.mem_cons, List.not_mem_nil, or_false] at hy
                subst hy
                exact hyr _ R4
            · rw [List.map_append, HX.out, HP.out]
              rfl
          case measure => simp [intOf]; omega
        · have q1 : (((n1 % 24 : Nat) : Int) == (k : Int)) = false := by simp; omega
          have HP : Hid (Jo.found m.pg (k + 1) = Jo.found m.pg k) := Lib.hid (by rw [HO.out, if_neg p2, List.append_nil])
          clear p1 p2 HO
          generalize n1 % 24 = pn at *
          go_wp2_with fail
          refine (KP _).mono ?_
          rintro e w' ⟨rfl, rfl⟩
          go_wp2_with fail
          go_roundw
          case rel => exact ⟨k + 1, X, A, c, by omega, by go_num, rfl, HE3.out, by rw [HP.out]; exact HX.out, by omega, HF3.out⟩
          case measure => simp [intOf]; omega
    · have hk24 : k = 24 := by omega
      subst hk24
      obtain ⟨hp, hs, hch, hsm⟩ := HH.out
      rw [← HX.out] at hp
      clear hlt HM hd
      rcases Nat.eq_zero_or_pos X.length with h0 | h0
      · have hX0 : X = [] := List.eq_nil_of_length_eq_zero h0
        subst hX0
        obtain ⟨rfl, rfl⟩ := HE.out.nil rfl
        have hF0 : F = [] := by
          have := hp.length_eq
          exact List.eq_nil_of_length_eq_zero (by simpa using this.symm)
        subst hF0
        have KS : Calls Tryz.prog 31 #[.slice none 0 0, .func (.func 32) #[] #[]] wr fun e w' => e = .returned (.tuple #[]) ∧ w' = wr := AnyF.slices_SortFunc_none Tryz.sortf none 0 _ wr
        clear hp hs hch hsm HH HX HE h0
        go_wp2_with fail
        refine KS.mono ?_
        clear KS
        rintro e w' ⟨rfl, rfl⟩
        go_wp2_with fail
        go_loopw [9] (fun at' W => at' = .int .i64 0 ∧ Fr (fun _ => False) w W) (fun _ _ => 0)
        case atStart => exact ⟨rfl, HF.out⟩
        case round =>
          obtain ⟨rfl, hF⟩ := hrel
          have HF2 := Lib.hid hF
          clear hF HF
          go_wp2_with fail
          refine region_fro (by kernel_rfl) (by kernel_rfl) ?_
          repeat (go_big_quiet_step (fail))
          refine wpQuiet_nil ?_
          rintro _ ⟨⟨w4, f4⟩, rfl⟩
          have HF4 := Lib.hid (HF2.out.trans f4 fun _ _ h => h)
          clear f4 HF2
          go_wp2_with fail
          go_ret
          exact ⟨none, 0, [], rfl, rfl, fun h => (by simp [elCells] at h), fun x hx => (by cases hx), fun g hg => (by cases hg), HF4.out⟩
      · obtain ⟨_, _, hA, _, _, hA2, _⟩ := wide_form HE.out.own
        injection hA with hA1 hA3 hA5
        subst hA1 hA5
        obtain ⟨g, hA4, hg⟩ := hA2 h0
        subst hA4
        have KS := sort_any HE.out.own (by omega)
        have HP := Lib.hid hp
        have HS := Lib.hid hs
        have HC := Lib.hid hch
        have HSM := Lib.hid hsm
        have hgl := (World.ownsRow.lt HE.out.own g rfl).1
        have HGL : Hid (∀ q, blk (some (⟨g, 0, none⟩ : Addr)) = some q → w.heap.size ≤ q) := Lib.hid fun q hq => by
          have e : g = q := by injection hq
          exact e ▸ hgl
        clear hp hs hch hsm HH hA2
        go_wp2_with fail
        refine KS.mono ?_
        clear KS
        rintro e w3 ⟨rfl, Y, hY, hYs, hYr, F3⟩
        have hYl : Y.length = X.length := hY.length_eq.symm
        have HF3 := Lib.hid (HF.out.trans F3 fun j hj e => by have h1 : j = g := e; omega)
        have hYF : Y.map prEl = F := by
          refine Jo.eq_of_sorted (fun x => x.1.nth) _ _ ((hY.symm.map prEl).trans HP.out) HS.out ?_
          rw [List.pairwise_map]
          exact hYs
        have HYR : Hid (∀ x ∈ Y, Rd w3 x.A (recCells x.s.first x.s.recs) ∧ ∀ g, blk x.A = some g → w.heap.size ≤ g) := Lib.hid fun x hx => by
          have hx2 := HE.out.recs x (hY.mem_iff.2 hx)
          refine ⟨?_, fun j hj => (World.ownsRow.lt hx2 j (by rw [Row.own]; exact hj)).1⟩
          refine wide_rd (wide_fr hx2 F3 fun j hj e => ?_)
          have h1 : j = g := e
          subst h1
          exact wide_ne hx2 HE.out.own (by decide) j hj rfl
        have HY := Lib.hid hYr
        have HYF := Lib.hid hYF
        rw [← hYl]
        rw [← hYl] at h0 hl
        clear hY hYs hYr F3 hYF HE HX HF hYl HP HS
        obtain ⟨n, hn⟩ : ∃ n, n = Y.length - 1 := ⟨_, rfl⟩
        have hmx : ∀ W, (Builtin.max_ #[3, 3] 3 #[.int .i64 ((Y.length : Int) - 1), .int .i64 0]).run Tryz.prog W = .ok (.int .i64 (n : Int)) W := fun W => by
          have e : (Y.length : Int) - 1 = (n : Int) := by omega
          rw [e]
          have := max_two n 0 W
          rwa [Nat.max_zero] at this
        go_wp2_with fail
        clear hmx
        go_loopw [9] (fun at' W => ∃ j : Nat, j < Y.length ∧ at' = .int .i64 (j : Int) ∧ Fr (fun _ => False) w3 W) (fun at' _ => (intOf at').toNat)
        case atStart => exact ⟨Y.length - 1, by omega, rfl, Fr.refl _ _⟩
        case round =>
          obtain ⟨j, hj, rfl, hF⟩ := hrel
          have HF2 := Lib.hid hF
          clear hF
          rcases j with _ | i
          · go_wp2_with fail
            refine region_fro (by kernel_rfl) (by kernel_rfl) ?_
            repeat (go_big_quiet_step (fail))
            refine wpQuiet_nil ?_
            rintro _ ⟨⟨w4, f4⟩, rfl⟩
            have HF4 := Lib.hid (HF2.out.trans f4 fun _ _ h => h)
            clear f4 HF2
            go_wp2_with fail
            go_ret
            exact ⟨some ⟨g, 0, none⟩, c, Y, rfl, HYF.out, HY.out.fr HF4.out fun _ _ => id, fun x hx => ⟨(HYR.out x hx).1.fr HF4.out fun _ _ => id, (HYR.out x hx).2⟩, HGL.out, HF3.out.trans HF4.out fun _ _ h => h⟩
          · have hc := HC.out i (by rw [← HYF.out, List.length_map]; exact hj)
            have hm1 := HSM.out (F[i]'(by rw [← HYF.out, List.length_map]; omega)) (List.getElem_mem _)
            have e1 : F[i + 1]'(by rw [← HYF.out, List.length_map]; exact hj) = prEl (Y[i + 1]) := by simp only [← HYF.out, List.getElem_map]
            have e0 : F[i]'(by rw [← HYF.out, List.length_map]; omega) = prEl (Y[i]) := by simp only [← HYF.out, List.getElem_map]
            rw [e1, e0] at hc
            rw [e0] at hm1
            obtain ⟨c2, c3, _⟩ := el_cells (HY.out.fr HF2.out fun _ _ => id) hj
            obtain ⟨d2, d3, d4⟩ := el_cells (HY.out.fr HF2.out fun _ _ => id) (show i < Y.length by omega)
            have hc1 : (Y[i + 1]).s.nth = (Y[i]'(by omega)).s.nth + 1 := hc.1
            have hc2 : (Y[i + 1]).s.first = (Y[i]'(by omega)).s.first + (Y[i]'(by omega)).s.recs.length := hc.2
            have hm2 : (Y[i]'(by omega)).s.nth ≤ 4294967296 ∧ (Y[i]'(by omega)).s.first ≤ 4294967296 ∧ (Y[i]'(by omega)).s.recs.length ≤ 4294967296 := hm1
            rw [hc1] at c2
            rw [hc2] at c3
            have KF := fun u : Fro _ => follows_any (o := (i + 1) * 6) (p := i * 6) (cell_fro c2 u) (cell_fro c3 u) (cell_fro d2 u) (cell_fro d3 u) (cell_fro d4 u) hm2.1 hm2.2.1 hm2.2.2
            have i1 : (0 : Int) ≤ (i : Int) + 1 := by omega
            have i2 : (i : Int) + 1 < (Y.length : Int) := by omega
            have i3 : (0 : Int) ≤ (i : Int) := by omega
            have i4 : (i : Int) < (Y.length : Int) := by omega
            have i5 : decide ((0 : Int) < (i : Int) + 1) = true := decide_eq_true (by omega)
            have i6 : (i : Int) + 1 - 1 = (i : Int) := by omega
            have i7 : ((i : Int) + 1).toNat = i + 1 := by omega
            rw [show ((i + 1 : Nat) : Int) = (i : Int) + 1 by omega]
            clear hc hm1 e1 e0 c2 c3 d2 d3 d4 hc1 hc2 hm2
            go_wp2_with fail
            refine region_fro (by kernel_rfl) (by kernel_rfl) ?_
            repeat (go_big_quiet_step (first | (go_at_call 33; with_reducible exact call_fro (KF _))))
            refine wpQuiet_nil ?_
            rintro _ ⟨⟨w4, f4⟩, rfl⟩
            have HF4 := Lib.hid (HF2.out.trans f4 fun _ _ h => h)
            clear f4 HF2 KF
            go_wp2_with fail
            go_roundw
            case rel => exact ⟨i, by omega, by go_num, HF4.out⟩
            case measure => simp [intOf]
end Go.Proofs.YtdoljggaoidljaaGreat

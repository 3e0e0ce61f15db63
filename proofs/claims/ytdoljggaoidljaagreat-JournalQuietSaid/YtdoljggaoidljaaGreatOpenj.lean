/- The contract of the journal's Open. -/
import Derived.Test.YtdoljggaoidljaaGreatSheets
import Derived.Deep.CutRange
import Derived.Deep.DeepCutAuto
import Derived.Deep.CutBlock
namespace Go.Proofs.YtdoljggaoidljaaGreat
open Go.RowKit

/-- a journal's cells -/
def jCells (o : Option (List UInt8)) (mb nth first next stop : Nat) (lost : Bool) : Array Value := #[.string (safeT o), .bool o.isSome, .pointer (some ⟨mb, 0, none⟩), .int .i64 (nth : Int), .int .i64 (first : Int), .int .i64 (next : Int), .int .i64 (stop : Int), .bool lost]
/-- where a journal of so many sheets stands -/
def firstOf (c : Nat) (L : Nat → Jo.Sh) : Nat := if c = 0 then 1 else (L (c - 1)).first
def stopOf (c : Nat) (L : Nat → Jo.Sh) : Nat := if c = 0 then 4096 else (L (c - 1)).body.length
def unitsOf (L : Nat → Jo.Sh) (k n : Nat) : List Jo.Rc := ((List.range' k n).map fun i => (L i).recs).flatten
theorem unitsOf_snoc (L : Nat → Jo.Sh) (k n : Nat) : unitsOf L k (n + 1) = unitsOf L k n ++ (L (k + n)).recs := by
  unfold unitsOf
  rw [Jo.range_snoc, List.map_append, List.flatten_append]
  simp
theorem body_le {pg : Nat → Nat → UInt8} {all : List Jo.Rc} {c : Nat} {L : Nat → Jo.Sh} (h : Jo.St pg all c L) (hc : 0 < c) : (L (c - 1)).body.length ≤ 4096 := by
  obtain ⟨tl, ht⟩ := h.last hc
  have := ht.len
  rw [List.length_append] at this
  omega
/-- how a journal lies -/
structure Jr (w : World) (jb mb : Nat) (all : List Jo.Rc) (c : Nat) (L : Nat → Jo.Sh) : Prop where
  is : Is w jb 47 (jCells (Jo.lastSafe none all) mb (c - 1) (firstOf c L) (all.length + 1) (stopOf c L) false)
/-- what Open answers -/
def Opened (w : World) (mb : Nat) (all : List Jo.Rc) (c : Nat) (L : Nat → Jo.Sh) (e : Ending) (w' : World) : Prop :=
  ∃ (jb k : Nat) (A : Option Addr) (cp : Nat), e = .returned (.tuple #[.pointer (some ⟨jb, 0, none⟩), .slice A (all.drop k).length cp, .int .i64 0]) ∧ Jr w' jb mb all c L ∧ w.heap.size ≤ jb ∧ k ≤ all.length ∧ (k = 0 ∨ k + 16 ≤ all.length) ∧ Rd w' A (recCells (k + 1) (all.drop k)) ∧ Fr (fun _ => False) w w'

theorem units_all {pg : Nat → Nat → UInt8} {all : List Jo.Rc} {c : Nat} {L : Nat → Jo.Sh} (h : Jo.St pg all c L) {k : Nat} (hk : k ≤ c) : unitsOf L k (c - k) = all.drop (Jo.upto L k).length ∧ (Jo.upto L k).length ≤ all.length := by
  have e := Jo.upto_split L k (c - k)
  rw [show k + (c - k) = c by omega, ← h.all] at e
  refine ⟨?_, by rw [e, List.length_append]; omega⟩
  rw [e, List.drop_left]
  rfl
/-- what the sheets that are found give -/
theorem found_ok {pg : Nat → Nat → UInt8} {all : List Jo.Rc} {c : Nat} {L : Nat → Jo.Sh} (h : Jo.St pg all c L) (hl : all.length ≤ 2147483000) : ∃ k, k ≤ c ∧ (0 < c → k < c) ∧ ((Jo.upto L k).length = 0 ∨ (Jo.upto L k).length + 16 ≤ all.length) ∧ (Jo.found pg 24).Perm ((List.range' k (c - k)).map (Jo.asF L)) ∧
    ((List.range' k (c - k)).map (Jo.asF L)).Pairwise (fun x y => x.1.nth < y.1.nth) ∧
    (∀ i (h1 : i + 1 < ((List.range' k (c - k)).map (Jo.asF L)).length), (((List.range' k (c - k)).map (Jo.asF L))[i + 1]).1.nth = (((List.range' k (c - k)).map (Jo.asF L))[i]).1.nth + 1 ∧ (((List.range' k (c - k)).map (Jo.asF L))[i + 1]).1.first = (((List.range' k (c - k)).map (Jo.asF L))[i]).1.first + (((List.range' k (c - k)).map (Jo.asF L))[i]).1.recs.length) ∧
    (∀ x ∈ ((List.range' k (c - k)).map (Jo.asF L)), x.1.nth ≤ 4294967296 ∧ x.1.first ≤ 4294967296 ∧ x.1.recs.length ≤ 4294967296) := by
  obtain ⟨k, h1, h2, h3, hp⟩ := Jo.found_perm h
  have hc := h.count
  refine ⟨k, h1, by omega, ?_, hp, Jo.asF_sorted h k _ _ (by omega), ?_, ?_⟩
  · rcases h3 with rfl | h3
    · exact .inl rfl
    · right
      have e := Jo.upto_split L k (c - 1 - k)
      have m := Jo.many_recs L k (c - 1 - k) fun i _ hi => h.some' i (by omega)
      have e2 : (Jo.upto L (k + (c - 1 - k))).length ≤ all.length := by
        rw [h.all]
        have := Jo.upto_mono L (k + (c - 1 - k)) 1
        rwa [show k + (c - 1 - k) + 1 = c by omega] at this
      rw [e, List.length_append] at e2
      omega
  · intro i hi
    rw [List.length_map, List.length_range'] at hi
    simp only [List.getElem_map, List.getElem_range', Nat.one_mul]
    show (L (k + (i + 1))).nth = (L (k + i)).nth + 1 ∧ (L (k + (i + 1))).first = (L (k + i)).first + (L (k + i)).recs.length
    rw [h.nth _ (by omega), h.nth _ (by omega), h.first _ (by omega), h.first _ (by omega)]
    refine ⟨by omega, ?_⟩
    show (Jo.upto L (k + i) ++ (L (k + i)).recs).length + 1 = _
    rw [List.length_append]
    omega
  · intro x hx
    obtain ⟨i, hi, rfl⟩ := List.mem_map.1 hx
    rw [List.mem_range'_1] at hi
    have hr : (L i).recs.length ≤ 4294967296 := by
      have h1 : (Jo.upto L (i + 1)).length ≤ all.length := by
        rw [h.all]
        have := Jo.upto_mono L (i + 1) (c - (i + 1))
        rwa [show i + 1 + (c - (i + 1)) = c by omega] at this
      have h2 : (Jo.upto L (i + 1)).length = (Jo.upto L i).length + (L i).recs.length := List.length_append
      omega
    show (L i).nth ≤ _ ∧ (L i).first ≤ _ ∧ (L i).recs.length ≤ _
    rw [h.nth i (by omega), h.first i (by omega)]
    have e2 : (Jo.upto L i).length ≤ all.length := by
      rw [h.all]
      have := Jo.upto_mono L i (c - i)
      rwa [show i + (c - i) = c by omega] at this
    exact ⟨by omega, by omega, hr⟩
theorem open_down {w : World} {b : Nat} {r : Option Nat} {m : Mm} (h : Mem w b r m) (hd : m.down = true) :
    Calls Tryz.prog 9 #[.pointer (some ⟨b, 0, none⟩)] w fun e w' => e = .returned (.tuple #[.pointer none, .slice none 0 0, .int .i64 14]) ∧ Fr (fun _ => False) w w' := by
  have KD := down_at h hd
  clear h hd
  go_enter Tryz.func9, Tryz.ntmps9
  go_wp2_with (go_at_call 15; refine KD.mono ?_; rintro e w' ⟨rfl, rfl⟩)
  go_ret3
  exact ⟨rfl, Fr.refl _ _⟩
/-- the sheet that Open looks at last -/
def lastV (Y : List El) (i : Nat) : Array Value := if i = 0 then #[.string ⟨#[]⟩, .bool false, .int .i64 0, .int .i64 1, .slice none 0 0, .int .i64 4096] else (encEl (Y.getD (i - 1) default)).toArray
theorem sheet_six {W : World} {ob : Nat} {v0 v1 v2 v3 v4 v5 : Value} (h : Is W ob 68 #[v0, v1, v2, v3, v4, v5]) (u0 u1 u2 u3 u4 u5 : Value) :
    Is ((((((W.setCell ⟨ob, 0, none⟩ u0).setCell ⟨ob, 1, none⟩ u1).setCell ⟨ob, 2, none⟩ u2).setCell ⟨ob, 3, none⟩ u3).setCell ⟨ob, 4, none⟩ u4).setCell ⟨ob, 5, none⟩ u5) ob 68 #[u0, u1, u2, u3, u4, u5] ∧ Fr (fun j => j = ob) W ((((((W.setCell ⟨ob, 0, none⟩ u0).setCell ⟨ob, 1, none⟩ u1).setCell ⟨ob, 2, none⟩ u2).setCell ⟨ob, 3, none⟩ u3).setCell ⟨ob, 4, none⟩ u4).setCell ⟨ob, 5, none⟩ u5) :=
  ⟨(((((h.set 0 u0).set 1 u1).set 2 u2).set 3 u3).set 4 u4).set 5 u5, ((((((Fr.refl (fun j => j = ob) W).setCell (p := ⟨ob, 0, none⟩) (.inl rfl) u0).setCell (p := ⟨ob, 1, none⟩) (.inl rfl) u1).setCell (p := ⟨ob, 2, none⟩) (.inl rfl) u2).setCell (p := ⟨ob, 3, none⟩) (.inl rfl) u3).setCell (p := ⟨ob, 4, none⟩) (.inl rfl) u4).setCell (p := ⟨ob, 5, none⟩) (.inl rfl) u5⟩
theorem lastV_six (Y : List El) (i : Nat) : ∃ v0 v1 v2 v3 v4 v5 : Value, lastV Y i = #[v0, v1, v2, v3, v4, v5] := by
  unfold lastV
  split
  · exact ⟨_, _, _, _, _, _, rfl⟩
  · exact ⟨_, _, _, _, _, _, rfl⟩
theorem units_le {pg : Nat → Nat → UInt8} {all : List Jo.Rc} {c : Nat} {L : Nat → Jo.Sh} (h : Jo.St pg all c L) {k q : Nat} (hq : k + q ≤ c) : (Jo.upto L (k + q)).length = (Jo.upto L k).length + (unitsOf L k q).length ∧ (Jo.upto L (k + q)).length ≤ all.length := by
  refine ⟨by rw [Jo.upto_split L k q, List.length_append]; rfl, ?_⟩
  rw [h.all]
  have := Jo.upto_mono L (k + q) (c - (k + q))
  rwa [show k + q + (c - (k + q)) = c by omega] at this
theorem last_is {pg : Nat → Nat → UInt8} {all : List Jo.Rc} {c : Nat} {L : Nat → Jo.Sh} (h : Jo.St pg all c L) {k : Nat} (hkc : 0 < c → k < c) {w : World} {Y : List El} (hYl : Y.length = c - k) (hY : ∀ i (hi : i < Y.length), Y[i].s = L (k + i) ∧ Y[i].stop = (L (k + i)).body.length)
    (hr : ∀ x ∈ Y, Rd w x.A (recCells x.s.first x.s.recs)) : ∃ (o : Option (List UInt8)) (n f : Nat) (A : Option Addr) (rl : List Jo.Rc) (cp st : Nat), lastV Y Y.length = #[.string (safeT o), .bool o.isSome, .int .i64 (n : Int), .int .i64 (f : Int), .slice A rl.length cp, .int .i64 (st : Int)] ∧ n = c - 1 ∧ f = firstOf c L ∧ st = stopOf c L ∧ f + rl.length = all.length + 1 ∧ Jo.lastSafe o rl = Jo.lastSafe none all ∧ Rd w A (recCells f rl) := by
  by_cases hc : c = 0
  · subst hc
    have h0 : Y = [] := List.eq_nil_of_length_eq_zero (by omega)
    subst h0
    have ha : all = [] := h.all
    subst ha
    exact ⟨none, 0, 1, none, [], 0, 4096, rfl, rfl, rfl, rfl, rfl, rfl, fun h => by simp [recCells] at h⟩
  · have hk := hkc (by omega)
    obtain ⟨n, hn⟩ : ∃ n, Y.length = n + 1 := ⟨Y.length - 1, by omega⟩
    obtain ⟨e1, e2⟩ := hY n (by omega)
    have e3 : k + n = c - 1 := by omega
    rw [e3] at e1 e2
    obtain ⟨x, hx⟩ : ∃ x, x = Y[n] := ⟨_, rfl⟩
    rw [← hx] at e1 e2
    refine ⟨x.s.safe, x.s.nth, x.s.first, x.A, x.s.recs, x.c, x.stop, ?_, ?_, ?_, ?_, ?_, ?_, hr x (by rw [hx]; exact List.getElem_mem _)⟩
    · unfold lastV
      rw [if_neg (by omega), hn, Nat.add_sub_cancel, List.getD_eq_getElem?_getD, List.getElem?_eq_getElem (by omega), hx]
      rfl
    · rw [e1, h.nth _ (by omega)]
    · unfold firstOf; rw [if_neg hc, e1]
    · unfold stopOf; rw [if_neg hc, e2]
    · rw [e1, h.first _ (by omega), h.all_last (by omega), List.length_append]
      omega
    · rw [e1, h.safe _ (by omega), ← Jo.lastSafe_append, ← h.all_last (by omega)]
set_option maxRecDepth 20000 in
set_option maxHeartbeats 8000000 in
theorem open_any {w : World} {b : Nat} {r : Option Nat} {m : Mm} (h : Mem w b r m) (hd : m.down = false) {all : List Jo.Rc} {c : Nat} {L : Nat → Jo.Sh} (hs : Jo.St m.pg all c L) (hl : all.length ≤ 2147483000) :
    Calls Tryz.prog 9 #[.pointer (some ⟨b, 0, none⟩)] w (Opened w b all c L) := by
  obtain ⟨k, hk, hkc, hk16, hp, hso, hch, hsm⟩ := found_ok hs hl
  have KD := down_at h hd
  have KS := fun (u : World) (f : Fr (fun _ => False) w u) => sheets_any (h.none f) hd hp hso hch hsm
  obtain ⟨hu1, hu2⟩ := units_all hs hk
  have HS := Lib.hid hs
  have HU : Hid (unitsOf L k (c - k) = all.drop (Jo.upto L k).length ∧ (Jo.upto L k).length ≤ all.length) := Lib.hid ⟨hu1, hu2⟩
  have HK16 := Lib.hid hk16
  obtain ⟨i0, hi0, hz0, hz1, hz2⟩ := info_parts Tryz.infoRec
  clear hp hso hch hsm hd h hu1 hu2 hk16 hs
  have f1 := (Fr.refl (fun _ => False) w).alloc (.cells #[.string ⟨#[]⟩, .bool false, .int .i64 0, .int .i64 1, .slice none 0 0, .int .i64 4096] 68)
  have i1 := Is.new w 68 #[.string ⟨#[]⟩, .bool false, .int .i64 0, .int .i64 1, .slice none 0 0, .int .i64 4096]
  obtain ⟨tb, htb⟩ : ∃ tb, tb = w.heap.size := ⟨_, rfl⟩
  rw [← htb] at i1
  have HTB : Hid (w.heap.size ≤ tb) := Lib.hid (Nat.le_of_eq htb.symm)
  have KS1 := KS _ f1
  have HF1 := Lib.hid f1
  have HI1 := Lib.hid i1
  clear f1 i1 KS
  go_enter Tryz.func9, Tryz.ntmps9
  go_wp2_with (go_at_call 15; refine KD.mono ?_; rintro e w' ⟨rfl, rfl⟩)
  rw [← htb]
  clear htb KD
  refine KS1.mono ?_
  clear KS1
  rintro e w2 ⟨A, cp, Y, rfl, hY, hYr, hYx, hYg, F2⟩
  have htb2 := HI1.out.lt
  have HYG : Hid (∀ g, blk A = some g → g ≠ tb) := Lib.hid fun g hg e => by have := hYg g hg; omega
  have HYX : Hid (∀ x ∈ Y, Rd w2 x.A (recCells x.s.first x.s.recs) ∧ ∀ g, blk x.A = some g → g ≠ tb) := Lib.hid fun x hx => ⟨(hYx x hx).1, fun g hg e => by have := (hYx x hx).2 g hg; omega⟩
  have HF2 := Lib.hid (HF1.out.trans F2 fun _ _ h => h)
  have HI2 := Lib.hid (HI1.out.fr F2 id)
  have hYl : Y.length = c - k := by
    have := congrArg List.length hY
    rwa [List.length_map, List.length_map, List.length_range'] at this
  have HYS : Hid (∀ i (hi : i < Y.length), Y[i].s = L (k + i) ∧ Y[i].stop = (L (k + i)).body.length) := Lib.hid fun i hi => by
    have e : (Y.map prEl)[i]'(by rw [List.length_map]; exact hi) = prEl Y[i] := by rw [List.getElem_map]
    have e2 : (Y.map prEl)[i]'(by rw [List.length_map]; exact hi) = Jo.asF L (k + i) := by
      simp only [hY, List.getElem_map, List.getElem_range', Nat.one_mul]
    have e3 := e.symm.trans e2
    unfold prEl Jo.asF at e3
    injection e3 with q1 q2
    exact ⟨q1, q2⟩
  have HYR := Lib.hid hYr
  clear hY hYr hYx hYg htb2 F2 HF1 HI1
  have HB2 := HI2.out.lt
  have HYL := Lib.hid hYl
  clear hYl
  go_wp2_with fail
  go_loopw [6, 16] (fun list i wr => ∃ (q : Nat) (A2 : Option Addr) (c2 : Nat), q ≤ Y.length ∧ i = .int .i64 (q : Int) ∧ list = .slice A2 (unitsOf L k q).length c2 ∧ wr.ownsRow w2.heap.size 49 3 (.slice A2 (unitsOf L k q).length c2) (unitsOf L k q).length (recCells ((Jo.upto L k).length + 1) (unitsOf L k q)) ∧ Is wr tb 68 (lastV Y q) ∧ Fr (fun j => w2.heap.size ≤ j ∨ j = tb) w2 wr) (fun _ i _ => Y.length - (intOf i).toNat)
  case atStart => exact ⟨0, none, 0, Nat.zero_le _, rfl, rfl, World.ownsRow_nil _ _ _ _, HI2.out, Fr.refl _ _⟩
  case round =>
    obtain ⟨q, A2, c2, hq, rfl, rfl, hO, hI, hF⟩ := hrel
    have HO := Lib.hid hO
    have HI := Lib.hid hI
    have HF := Lib.hid hF
    clear hO hI hF
    by_cases hlt : q < Y.length
    · have hYl := HYL.out
      obtain ⟨g, o, hA, hgl, hc⟩ := HYR.out (by rw [elCells_length]; omega)
      subst hA
      have hgt := HYG.out g rfl
      have hce : ∀ i v, i < 6 → (encEl Y[q])[i]? = some v → wr.cell? ⟨g, o + q * 6 + i, none⟩ = some v := fun i v hi hv => by
        rw [Nat.add_assoc]
        exact (HF.out.cell (p := ⟨g, o + (q * 6 + i), none⟩) hgl (by show ¬ (_ ≤ g ∨ g = tb); omega)).trans (hc (q * 6 + i) v ((elCells_at Y q i hlt hi).trans hv))
      obtain ⟨x, hx⟩ : ∃ x, x = Y[q] := ⟨_, rfl⟩
      rw [← hx] at hce
      obtain ⟨hsq, hstop⟩ := HYS.out q hlt
      rw [← hx] at hsq hstop
      obtain ⟨hxr, hxg⟩ := HYX.out x (by rw [hx]; exact List.getElem_mem _)
      have g0 := hce 0 _ (by decide) rfl
      have g1 := hce 1 _ (by decide) rfl
      have g2 := hce 2 _ (by decide) rfl
      have g3 := hce 3 _ (by decide) rfl
      have g4 := hce 4 _ (by decide) rfl
      have g5 := hce 5 _ (by decide) rfl
      rw [Nat.add_zero] at g0
      obtain ⟨v0, v1, v2, v3, v4, v5, hv⟩ := lastV_six Y q
      have hI0 := HI.out
      rw [hv] at hI0
      have t0 := hI0.cell 0
      have t1 := hI0.cell 1
      have t2 := hI0.cell 2
      have t3 := hI0.cell 3
      have t4 := hI0.cell 4
      have t5 := hI0.cell 5
      have tf := hI0.frozen
      have tl := hI0.lt
      simp at t0 t1 t2 t3 t4 t5
      have hrx : Rd wr x.A (recCells x.s.first x.s.recs) := fun h0 => by
        obtain ⟨b', o', e1, e2, e3⟩ := hxr h0
        exact ⟨b', o', e1, Nat.lt_of_lt_of_le e2 HF.out.size, fun j u hu => (HF.out.cell (p := ⟨b', o' + j, none⟩) e2 (by have := hxg b' (by rw [e1]; rfl); show ¬ (_ ≤ b' ∨ b' = tb); omega)).trans (e3 j u hu)⟩
      have hlast : lastV Y (q + 1) = (encEl x).toArray := by
        unfold lastV
        rw [if_neg (by omega), Nat.add_sub_cancel, List.getD_eq_getElem?_getD, List.getElem?_eq_getElem hlt, hx]
        rfl
      obtain ⟨z1, z2⟩ := units_le HS.out (k := k) (q := q) (by omega)
      obtain ⟨z3, z4⟩ := units_le HS.out (k := k) (q := q + 1) (by omega)
      have hun := unitsOf_snoc L k q
      have hf1 : x.s.first = (Jo.upto L k).length + 1 + (unitsOf L k q).length := by
        rw [hsq, HS.out.first _ (by omega), z1]
        omega
      have hul : (unitsOf L k (q + 1)).length = (unitsOf L k q).length + x.s.recs.length := by rw [hun, List.length_append, hsq]
      have HUL := Lib.hid hul
      have HUN : Hid (recCells ((Jo.upto L k).length + 1) (unitsOf L k (q + 1)) = recCells ((Jo.upto L k).length + 1) (unitsOf L k q) ++ recCells x.s.first x.s.recs) := Lib.hid (by rw [hun, recCells_append, hf1, hsq])
      have HLAST := Lib.hid hlast
      have HL1 : Hid ((unitsOf L k q).length + x.s.recs.length ≤ maxLen) := Lib.hid (by unfold maxLen; omega)
      have HL2 : Hid (((unitsOf L k q).length + x.s.recs.length) * 32 ≤ 140737488355328) := Lib.hid (by omega)
      have HL3 := Lib.hid (recCells_length x.s.recs x.s.first)
      have HL4 := Lib.hid (recCells_one x.s.recs x.s.first)
      have HRX := Lib.hid hrx
      have HXG := Lib.hid hxg
      have HI0 := Lib.hid hI0
      have i1 : (0 : Int) ≤ (q : Int) := by omega
      have i2 : (q : Int) < (Y.length : Int) := by omega
      clear hc hce hx hsq hstop hxr hxg hI0 hrx hlast z1 z2 z3 z4 hun hf1 hul hv hYl
      obtain ⟨⟨xn, xf, xo, xr⟩, xst, xA, xc, xsm⟩ := x
      simp only at *
      generalize hst : safeT xo = sto at *
      generalize hsk : xo.isSome = sko at *
      have HLV : Hid (lastV Y (q + 1) = #[.string sto, .bool sko, .int .i64 (xn : Int), .int .i64 (xf : Int), .slice xA xr.length xc, .int .i64 (xst : Int)]) := Lib.hid (by rw [HLAST.out, ← hst, ← hsk]; rfl)
      have hYb : Y.length ≤ 2147483001 := by have := HS.out.count; have := HYL.out; omega
      clear hst hsk
      have HI5 := Lib.hid (sheet_six HI0.out (.string sto) (.bool sko) (.int .i64 (xn : Int)) (.int .i64 (xf : Int)) (.slice xA xr.length xc) (.int .i64 (xst : Int)))
      obtain ⟨W5, hW5⟩ : ∃ W5, W5 = (((((wr.setCell ⟨tb, 0, none⟩ (.string sto)).setCell ⟨tb, 1, none⟩ (.bool sko)).setCell ⟨tb, 2, none⟩ (.int .i64 (xn : Int))).setCell ⟨tb, 3, none⟩ (.int .i64 (xf : Int))).setCell ⟨tb, 4, none⟩ (.slice xA xr.length xc)).setCell ⟨tb, 5, none⟩ (.int .i64 (xst : Int)) := ⟨_, rfl⟩
      go_upto_region 8 with fail
      rw [← hW5] at HI5 ⊢
      clear hW5 g0 g1 g2 g3 g4 g5 t0 t1 t2 t3 t4 t5 tf
      have t4 : W5.cell? ⟨tb, 4, none⟩ = some (.slice xA xr.length xc) := HI5.out.1.cell 4
      have HO5 := Lib.hid (wide_fr HO.out HI5.out.2 fun j hj e => by have h1 := (World.ownsRow.lt HO.out j hj).1; have h2 : j = tb := e; omega)
      have HR5 := Lib.hid (HRX.out.fr HI5.out.2 fun j hj e => HXG.out j hj e)
      have HF5 := Lib.hid (HF.out.trans HI5.out.2 fun j _ e => .inr e)
      have HB5 : Hid (w2.heap.size ≤ W5.heap.size) := Lib.hid HF5.out.size
      have HI6 := Lib.hid HI5.out.1
      clear HO HRX HF HI5 HI0 HI tl hgl hgt i1 i2
      go_wp2_with (at_builtin; refine wpList_append_wide _ rfl (.tmp 20) (.tmp 22) 37 rfl w2.heap.size 49 i0 _ 3 32 Tryz.underlying37 hi0 hz0 hz1 hz2 rfl (by decide) (.slice A2 (unitsOf L k q).length c2) (unitsOf L k q).length (recCells ((Jo.upto L k).length + 1) (unitsOf L k q)) rfl HO5.out xA xc xr.length (recCells xf xr) HL3.out rfl HR5.out HL4.out HL1.out HL2.out HB5.out ?_; intro v6 w6 hown6 hg6 hat6; obtain ⟨A6, c6, rfl, _, _, _, _⟩ := wide_form hown6; have HO6 := Lib.hid hown6; have HG6 := Lib.hid hg6; clear hown6 hg6 hat6)
      go_wp2_with fail
      go_roundw
      case rel =>
        have f6 := (Fr.refl (fun j => blk A2 = some j) W5).grown HG6.out fun j hj => .inl (by rw [Row.own] at hj; exact hj)
        have hlo : ∀ j, blk A2 = some j → w2.heap.size ≤ j := fun j hj => (World.ownsRow.lt HO5.out j (by rw [Row.own]; exact hj)).1
        refine ⟨q + 1, A6, c6, by omega, by go_num, by rw [HUL.out], by rw [HUL.out, HUN.out]; exact HO6.out, by rw [HLV.out]; exact HI6.out.fr f6 fun e => by have := hlo tb e; omega, HF5.out.trans f6 fun j _ hj => .inl (hlo j hj)⟩
      case measure => simp [intOf]; omega
    · have hqe : q = Y.length := by omega
      subst hqe
      have hu := HU.out
      rw [← HYL.out] at hu
      have HO1 := HO.out
      rw [hu.1] at HO1 ⊢
      have hrw : ∀ x ∈ Y, Rd wr x.A (recCells x.s.first x.s.recs) := fun x hx h0 => by
        obtain ⟨b', o', e1, e2, e3⟩ := (HYX.out x hx).1 h0
        exact ⟨b', o', e1, Nat.lt_of_lt_of_le e2 HF.out.size, fun j u hu => (HF.out.cell (p := ⟨b', o' + j, none⟩) e2 (by have := (HYX.out x hx).2 b' (by rw [e1]; rfl); show ¬ (_ ≤ b' ∨ b' = tb); omega)).trans (e3 j u hu)⟩
      obtain ⟨oL, nL, fL, AL, rl, cL, stL, hv, q1, q2, q3, q4, q5, q6⟩ := last_is HS.out hkc HYL.out HYS.out hrw
      have hI0 := HI.out
      rw [hv] at hI0
      have HI0 := Lib.hid hI0
      have HO2 := Lib.hid HO1
      have HLV : Hid (nL = c - 1 ∧ fL = firstOf c L ∧ stL = stopOf c L ∧ fL + rl.length = all.length + 1 ∧ Jo.lastSafe oL rl = Jo.lastSafe none all ∧ Rd wr AL (recCells fL rl)) := Lib.hid ⟨q1, q2, q3, q4, q5, q6⟩
      have hb1 : fL ≤ 4294967296 := by omega
      have hb2 : rl.length ≤ 4294967296 := by omega
      have HFW : Hid (Fr (fun _ => False) w wr) := Lib.hid (HF2.out.trans HF.out fun j hj e => by have h1 := HF2.out.size; have h2 := HTB.out; omega)
      obtain ⟨t0, t1, t2, t3, t4, t5, tf⟩ := sheet_cells hI0
      have tl := hI0.lt
      have KN := next_any (w := wr.drew) (g := tb) (o := 0) (A := AL) (c := cL) t3 t4 hb1 hb2
      clear q1 q2 q3 q4 q5 q6 hv HO1 hrw hI0 hu HYS HYX HYR HYG HF2 HF HI HO
      generalize hnn : (all.drop (Jo.upto L k).length).length = nn at *
      have HNN := Lib.hid hnn
      clear hnn
      obtain ⟨nx, hnx⟩ : ∃ nx, nx = fL + rl.length := ⟨_, rfl⟩
      rw [← hnx] at KN
      have HNX := Lib.hid hnx
      clear hnx
      go_wp2_with fail
      go_region_held3 (fun W => W.cell? ⟨tb, 0, none⟩ = some (.string (safeT oL)) ∧ W.cell? ⟨tb, 1, none⟩ = some (.bool oL.isSome) ∧ W.cell? ⟨tb, 2, none⟩ = some (.int .i64 (nL : Int)) ∧ W.cell? ⟨tb, 3, none⟩ = some (.int .i64 (fL : Int)) ∧ W.cell? ⟨tb, 5, none⟩ = some (.int .i64 (stL : Int))) (first | exact ⟨t0, t1, t2, t3, t5⟩ | exact s1 | exact ⟨(al _ 0).trans s1.1, (al _ 1).trans s1.2.1, (al _ 2).trans s1.2.2.1, (al _ 3).trans s1.2.2.2.1, (al _ 5).trans s1.2.2.2.2⟩) (first | (go_at_call 20; refine KN.mono ?_; rintro e w5 ⟨rfl, f5⟩; have tl5 : tb < w5.heap.size := Nat.lt_of_lt_of_le tl f5.size; have al : ∀ (ob : Obj) (i : Nat), (w5.alloc ob).cell? ⟨tb, i, none⟩ = w5.cell? ⟨tb, i, none⟩ := fun ob i => ((Fr.refl (fun _ => False) w5).alloc ob).cell (p := ⟨tb, i, none⟩) tl5 id; have s1 : w5.cell? ⟨tb, 0, none⟩ = some (.string (safeT oL)) ∧ w5.cell? ⟨tb, 1, none⟩ = some (.bool oL.isSome) ∧ w5.cell? ⟨tb, 2, none⟩ = some (.int .i64 (nL : Int)) ∧ w5.cell? ⟨tb, 3, none⟩ = some (.int .i64 (fL : Int)) ∧ w5.cell? ⟨tb, 5, none⟩ = some (.int .i64 (stL : Int)) := ⟨(f5.cell (p := ⟨tb, 0, none⟩) tl id).trans t0, (f5.cell (p := ⟨tb, 1, none⟩) tl id).trans t1, (f5.cell (p := ⟨tb, 2, none⟩) tl id).trans t2, (f5.cell (p := ⟨tb, 3, none⟩) tl id).trans t3, (f5.cell (p := ⟨tb, 5, none⟩) tl id).trans t5⟩))
      have HW6 : Hid (w5.heap.size = w5.heap.size) := Lib.hid rfl
      have i6 := Is.new w5 47 #[.string (safeT oL), .bool oL.isSome, .pointer (some ⟨b, 0, none⟩), .int .i64 (nL : Int), .int .i64 (fL : Int), .int .i64 (nx : Int), .int .i64 (stL : Int), .bool false]
      have g6 := ((Fr.refl (fun _ => False) wr).drew.trans f5 fun _ _ h => h).alloc (.cells #[.string (safeT oL), .bool oL.isSome, .pointer (some ⟨b, 0, none⟩), .int .i64 (nL : Int), .int .i64 (fL : Int), .int .i64 (nx : Int), .int .i64 (stL : Int), .bool false] 47)
      have hwj : wr.heap.size ≤ w5.heap.size := f5.size
      go_wp2_with fail
      obtain ⟨W6, hW6⟩ : ∃ W6, W6 = w5.alloc (.cells #[.string (safeT oL), .bool oL.isSome, .pointer (some ⟨b, 0, none⟩), .int .i64 (nL : Int), .int .i64 (fL : Int), .int .i64 (nx : Int), .int .i64 (stL : Int), .bool false] 47) := ⟨_, rfl⟩
      obtain ⟨jb, hjb⟩ : ∃ jb, jb = w5.heap.size := ⟨_, rfl⟩
      rw [← hjb] at i6 hwj ⊢
      rw [← hW6] at i6 g6 ⊢
      have hrw := HLV.out.2.2.2.2.2
      have KNT := note_any (o := oL) i6.drew rfl rfl (c := cL) ((hrw.fr g6 fun _ _ => id).fr (Fr.refl (fun _ => False) W6).drew fun _ _ => id) (fun h0 g hg e => by
        obtain ⟨b', o', e1, e2, _⟩ := hrw (by rw [recCells_length]; omega)
        rw [e1] at hg
        have h2 : b' = g := by injection hg
        omega) hb2
      have u4 : W6.drew.cell? ⟨tb, 4, none⟩ = some (.slice AL rl.length cL) := (g6.cell (p := ⟨tb, 4, none⟩) tl id).trans t4
      have HG6 := Lib.hid g6
      have HI6 := Lib.hid i6
      clear hW6 hjb i6 g6 hrw t0 t1 t2 t3 t4 t5 tf s1 al f5 tl5 HW6 KN hb1
      go_region_held3 (fun W => W.cell? ⟨tb, 4, none⟩ = some (.slice AL rl.length cL)) (first | exact u4 | exact u5) (first | (go_at_call 21; refine KNT.mono ?_; rintro e w8 ⟨rfl, j8, f8⟩; have u5 : w8.cell? ⟨tb, 4, none⟩ = some (.slice AL rl.length cL) := (f8.cell (p := ⟨tb, 4, none⟩) (Nat.lt_of_lt_of_le tl HG6.out.size) (by show ¬ tb = jb; omega)).trans u4))
      go_wp2_with fail
      go_ret3
      obtain ⟨z1, z2, z3, z4, z5, _⟩ := HLV.out
      have hlo := fun j hj => (World.ownsRow.lt HO2.out j hj).2
      have F8 : Fr (fun j => j = jb) wr w8 := ((HG6.out.drew).mono fun _ _ h => h.elim).trans f8 fun _ _ h => h
      refine ⟨jb, (Jo.upto L k).length, A2, c2, by rw [HNN.out]; rfl, ⟨?_⟩, Nat.le_trans HFW.out.size hwj, HU.out.2, HK16.out, (wide_rd HO2.out).fr F8 fun j hj e => ?_, HFW.out.trans F8 fun j hj e => ?_⟩
      · have hj : safeSet #[.string (safeT oL), .bool oL.isSome, .pointer (some ⟨b, 0, none⟩), .int .i64 (nL : Int), .int .i64 (fL : Int), .int .i64 (nx : Int), .int .i64 (stL : Int), .bool false] (Jo.lastSafe oL rl) = jCells (Jo.lastSafe none all) b (c - 1) (firstOf c L) (all.length + 1) (stopOf c L) false := by
          rw [z5, z1, z2, z3, HNX.out, z2.symm, z4]
          rfl
        rw [← hj]
        exact j8
      · have := hlo j (by rw [Row.own]; exact hj)
        have h1 : j = jb := e
        omega
      · have h1 : j = jb := e
        have := HFW.out.size
        omega
end Go.Proofs.YtdoljggaoidljaaGreat

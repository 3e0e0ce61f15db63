/- The contract of Again. -/
import Derived.Test.YtdoljggaoidljaaGreatNew
import Derived.Deep.RegionHeld3
namespace Go.Proofs.YtdoljggaoidljaaGreat
open Go.RowKit Go.Maps

/-- a run of cells of a block, loaded whole -/
theorem run_loadVar_sub {P : Program} (w : World) (g off n : Nat) (t ty : TypeId) (cs : Array Value) (fr : Nat × Nat) (d : TypeDesc) (hg : w.heap[g]? = some (.cells cs t fr))
    (hu : P.underlying ty = some d) (hd : (match d with | .struct _ | .array _ _ => true | _ => false) = true) (hi : (P.info? ty).map (·.size) = some n) (hle : off + n ≤ cs.size) :
    (loadVar ty ⟨g, off, none⟩).run P w = .ok (.agg (cs.extract off (off + n))) w := by
  have hsz : (cs.extract off (off + n)).size = n := by simp; omega
  have hl : (loadCells ⟨g, off, none⟩ (cs.extract off (off + n)).toList.length).run P w = .ok (cs.extract off (off + n)).toList.toArray w :=
    run_loadCells_list (P := P) w ⟨g, off, none⟩ (cs.extract off (off + n)).toList (fun j v hv => by
      have hadd : (⟨g, off, none⟩ : Addr).add j = ⟨g, off + j, none⟩ := by unfold Addr.add; split <;> simp_all
      rw [hadd, cell_of_row w g (off + j) cs t fr hg]
      rw [Array.getElem?_toList, Array.getElem?_extract] at hv
      split at hv
      · exact hv
      · cases hv)
  cases hq : P.info? ty with
  | none => simp [hq] at hi
  | some i =>
    have hs : i.size = n := by simpa [hq] using hi
    have hagg : (isAgg ty).run P w = .ok true w := by
      unfold isAgg
      rw [Sem.run_bind, run_underlying hu w]
      cases d <;> simp_all
    rw [Array.length_toList, hsz, Array.toArray_toList] at hl
    simp [loadVar, Sem.run_bind, hagg, sizeOf, typeInfo, hq, hs, hl]

theorem exec_load {P : Program} {ev : Operand → Value} {o : Oper} {ty : TypeId} {x : Operand} {g off : Nat} {v : Value} {W : World} (ho : o.op = .load ty x) (hx : ev x = .pointer (some ⟨g, off, none⟩)) (h : (loadVar ty ⟨g, off, none⟩).run P W = .ok v W) :
    (execOp ev o).run P W = .ok (.value v) W := by
  unfold execOp
  simp only [ho, hx, Instr.loadAt, Instr.sureAddr, Sem.run_bind, Sem.run_pure, Result.andThen_ok, h]
theorem exec_build {P : Program} {ev : Operand → Value} {o : Oper} {t : TypeId} {parts : Array (Nat × Operand)} {qs : Array (Nat × Value)} {v : Value} {W : World} (ho : o.op = .build t parts) (hq : (parts.map fun (i, x) => (i, ev x)) = qs) (h : (Instr.build t qs).run P W = .ok v W) :
    (execOp ev o).run P W = .ok (.value v) W := by
  unfold execOp
  simp only [ho, hq, Sem.run_bind, Sem.run_pure, Result.andThen_ok, h]

theorem fold_splice (off : Nat) : ∀ (l : List Value) (k : Nat) (cs : Array Value), (l.zipIdx k).foldl (fun (cs : Array Value) (x : Value × Nat) => cs.setIfInBounds (off + x.2) x.1) cs = splice cs (off + k) l
  | [], _, _ => rfl
  | v :: r, k, cs => by
    rw [List.zipIdx_cons, List.foldl_cons, fold_splice off r (k + 1), splice, Nat.add_assoc]
theorem fold_splice0 (off : Nat) (v cs : Array Value) : v.zipIdx.foldl (fun (cs : Array Value) (x : Value × Nat) => cs.setIfInBounds (off + x.2) x.1) cs = splice cs off v.toList := by
  rw [← Array.foldl_toList, Array.toList_zipIdx, fold_splice off v.toList 0 cs]
  rfl
theorem fill_one (place : Nat → Option (Nat × Nat)) (cells : Array Value) (i off n : Nat) (v : Value) (rest : List (Nat × Value)) (hp : place i = some (off, n)) (hn : v.cells.size = n) (hc : off + n ≤ cells.size) :
    Instr.fill place cells ((i, v) :: rest) = Instr.fill place (splice cells off v.cells.toList) rest := by
  have h1 : ¬ (v.cells.size ≠ n) := fun k => k hn
  have h2 : ¬ (off + v.cells.size > cells.size) := by omega
  rw [Instr.fill, hp]
  simp only [h1, h2, decide_false, Bool.or_false, Bool.false_eq_true, if_false]
  exact congrArg (fun z => Instr.fill place z rest) (fold_splice0 off v.cells cells)

theorem build_mem {zs Pg Wn : Array Value} (hz : ∀ w, (zeroValue 62).run Tryz.prog w = .ok (.agg zs) w) (hs : zs.size = 98332) (hP : Pg.size = 98304) (hW : Wn.size = 24) (W : World) :
    (Instr.build 62 #[(1, .agg Pg), (2, .agg Wn)]).run Tryz.prog W = .ok (.agg (splice (splice zs 4 Pg.toList) 98308 Wn.toList)) W := by
  have hf : Instr.fill (fun x => [(0, 4), (4, 98304), (98308, 24)][x]?) zs [(1, .agg Pg), (2, .agg Wn)] = some (splice (splice zs 4 Pg.toList) 98308 Wn.toList) := by
    rw [fill_one _ _ 1 4 98304 (.agg Pg) _ rfl hP (by omega), fill_one _ _ 2 98308 24 (.agg Wn) _ rfl hW (by rw [splice_size]; omega)]
    rfl
  unfold Instr.build
  simp only [Sem.run_bind, hz, Result.andThen_ok, Value.cells]
  simp [run_underlying Tryz.underlying62, Tryz.sizeOf57, Tryz.sizeOf59, Tryz.sizeOf60, hf, Result.andThen]
theorem mem_again {w : World} {b : Nat} {zs cs Pg Wn Z : Array Value} {m : Mm} (hi : Is w b 62 Z) (h0 : AtN zs 0) (h : At cs m) (hP : Pg = cs.extract 4 (4 + 98304)) (hW : Wn = cs.extract 98308 (98308 + 24))
    (hZ : splice (splice zs 4 Pg.toList) 98308 Wn.toList = Z) : Mem w b none m.again := by
  have hPs : Pg.toList.length = 98304 := by rw [hP, Array.length_toList]; simp [h.size]
  have hWs : Wn.toList.length = 24 := by rw [hW, Array.length_toList]; simp [h.size]
  have e1 : ∀ i, Z[i]? = if 98308 ≤ i ∧ i < 98332 then Wn[i - 98308]? else if 4 ≤ i ∧ i < 98308 then Pg[i - 4]? else zs[i]? := fun i => by
    rw [← hZ, splice_at _ _ _ _ (by rw [splice_size, h0.size, hWs]; omega), hWs, splice_at _ _ _ _ (by rw [h0.size, hPs]; omega), hPs, Array.getElem?_toList, Array.getElem?_toList]
  have hz : Z.size = 98332 := by rw [← hZ, splice_size, splice_size, h0.size]
  refine ⟨⟨Z, hi, ⟨hz, ?_, ?_, ?_, fun p i hp hi => ?_, fun p hp => ?_⟩, ?_⟩, fun _ _ => rfl, Nat.le_refl _, by show 0 ≤ _; omega, (by intro e; cases e), fun k hk => (by cases hk)⟩
  · rw [e1, if_neg (by omega), if_neg (by omega)]; exact h0.c0
  · rw [e1, if_neg (by omega), if_neg (by omega)]; exact h0.c1
  · rw [e1, if_neg (by omega), if_neg (by omega)]; exact h0.c3
  · rw [e1, if_neg (by omega), if_pos (by omega), hP, Array.getElem?_extract, if_pos (by rw [h.size]; omega), show 4 + (4 + p * 4096 + i - 4) = 4 + p * 4096 + i by omega]
    exact h.pg p i hp hi
  · rw [e1, if_pos (by omega), hW, Array.getElem?_extract, if_pos (by rw [h.size]; omega), show 98308 + (98308 + p - 98308) = 98308 + p by omega]
    exact h.worn p hp
  · rw [e1, if_neg (by omega), if_neg (by omega)]; exact h0.c2

set_option maxHeartbeats 1000000 in
theorem again_any {w : World} {b : Nat} {r : Option Nat} {m : Mm} (h : Mem w b r m) : Calls Tryz.prog 11 #[.pointer (some ⟨b, 0, none⟩)] w fun e w' => e = .returned (.pointer (some ⟨w.heap.size, 0, none⟩)) ∧ Mem w' w.heap.size none m.again ∧ Fr (fun _ => False) w w' := by
  obtain ⟨zs, hz, hs, ht, hd⟩ := zero_mem
  have A0 := Lib.hid (atN_zero hs ht hd)
  have hne : ¬ zs = #[] := fun e => by rw [e] at hs; cases hs
  obtain ⟨cs, h1, h2, h3⟩ := h.ex
  have hcs := h2.size
  obtain ⟨Pg, hPg⟩ : ∃ Pg, Pg = cs.extract 4 (4 + 98304) := ⟨_, rfl⟩
  obtain ⟨Wn, hWn⟩ : ∃ Wn, Wn = cs.extract 98308 (98308 + 24) := ⟨_, rfl⟩
  have hPs : Pg.size = 98304 := by rw [hPg]; simp; omega
  have hWs : Wn.size = 24 := by rw [hWn]; simp; omega
  have l1 : (loadVar 59 ⟨b, 4, none⟩).run Tryz.prog w.drew = .ok (.agg Pg) w.drew := by
    rw [hPg]
    exact run_loadVar_sub w.drew b 4 98304 _ _ cs _ _ h1 Tryz.underlying59 rfl (by kernel_rfl) (by omega)
  have l2 : (loadVar 60 ⟨b, 98308, none⟩).run Tryz.prog w.drew = .ok (.agg Wn) w.drew := by
    rw [hWn]
    exact run_loadVar_sub w.drew b 98308 24 _ _ cs _ _ h1 Tryz.underlying60 rfl (by kernel_rfl) (by omega)
  have HP := Lib.hid hPg
  have HW := Lib.hid hWn
  have H1 := Lib.hid h1
  have H2 := Lib.hid h2
  have HZ := Lib.hid hz
  clear ht hd h hPg hWn h1 h2 h3 hcs hz
  go_enter Tryz.func11, Tryz.ntmps11
  go_wp2_with fail
  refine wp_region_held_drew (S := fun Wx => (loadVar 59 ⟨b, 4, none⟩).run Tryz.prog Wx = .ok (.agg Pg) Wx ∧ (loadVar 60 ⟨b, 98308, none⟩).run Tryz.prog Wx = .ok (.agg Wn) Wx) (by kernel_rfl) ⟨l1, l2⟩ (fun hHeld => ?_)
  refine wpAnyH_take (i := 0) (v := ?_) rfl (by kernel_rfl) (by kernel_rfl) (by kernel_rfl) (fun _ _ _ h => h) (Or.inl ⟨by rfl, ?_⟩) (by assumption) ?_
  rotate_left
  · intro Wx hSw
    try dsimp only at hSw
    clear hSw
    go_simp
    try with_reducible rfl
  try simp only [Act.put]
  refine wpAnyH_take (i := 1) (v := ?_) rfl (by kernel_rfl) (by kernel_rfl) (by kernel_rfl) (fun _ _ _ h => h) (Or.inl ⟨by rfl, ?_⟩) (by assumption) ?_
  rotate_left
  · intro Wx hSw
    try dsimp only at hSw
    clear hSw
    go_simp
    try with_reducible rfl
  try simp only [Act.put]
  refine wpAnyH_take (i := 2) (v := ?_) rfl (by kernel_rfl) (by kernel_rfl) (by kernel_rfl) (fun _ _ _ h => h) (Or.inl ⟨by rfl, ?_⟩) (by assumption) ?_
  rotate_left
  · intro Wx hSw
    try dsimp only at hSw
    clear hSw
    go_simp
    try with_reducible rfl
  try simp only [Act.put]
  refine wpAnyH_take (i := 3) (v := .agg Pg) rfl (by kernel_rfl) (by kernel_rfl) (by kernel_rfl) (fun _ _ _ h => h) (Or.inl ⟨by rfl, fun Wx hSw => ?_⟩) (by assumption) ?_
  · exact exec_load rfl rfl hSw.1
  try simp only [Act.put]
  refine wpAnyH_take (i := 4) (v := ?_) rfl (by kernel_rfl) (by kernel_rfl) (by kernel_rfl) (fun _ _ _ h => h) (Or.inl ⟨by rfl, ?_⟩) (by assumption) ?_
  rotate_left
  · intro Wx hSw
    try dsimp only at hSw
    clear hSw
    go_simp
    try with_reducible rfl
  try simp only [Act.put]
  refine wpAnyH_take (i := 5) (v := ?_) rfl (by kernel_rfl) (by kernel_rfl) (by kernel_rfl) (fun _ _ _ h => h) (Or.inl ⟨by rfl, ?_⟩) (by assumption) ?_
  rotate_left
  · intro Wx hSw
    try dsimp only at hSw
    clear hSw
    go_simp
    try with_reducible rfl
  try simp only [Act.put]
  refine wpAnyH_take (i := 6) (v := ?_) rfl (by kernel_rfl) (by kernel_rfl) (by kernel_rfl) (fun _ _ _ h => h) (Or.inl ⟨by rfl, ?_⟩) (by assumption) ?_
  rotate_left
  · intro Wx hSw
    try dsimp only at hSw
    clear hSw
    go_simp
    try with_reducible rfl
  try simp only [Act.put]
  refine wpAnyH_take (i := 7) (v := .agg Wn) rfl (by kernel_rfl) (by kernel_rfl) (by kernel_rfl) (fun _ _ _ h => h) (Or.inl ⟨by rfl, fun Wx hSw => ?_⟩) (by assumption) ?_
  · exact exec_load rfl rfl hSw.2
  try simp only [Act.put]
  refine wpAnyH_take (i := 8) (v := .agg (splice (splice zs 4 Pg.toList) 98308 Wn.toList)) rfl (by kernel_rfl) (by kernel_rfl) (by kernel_rfl) (fun _ _ _ h => h) (Or.inl ⟨by rfl, fun Wx hSw => ?_⟩) (by assumption) ?_
  · exact exec_build (qs := #[(1, .agg Pg), (2, .agg Wn)]) rfl (by simp [Act.eval]) (build_mem HZ.out hs hPs hWs Wx)
  try simp only [Act.put]
  generalize hZ : splice (splice zs 4 Pg.toList) 98308 Wn.toList = Z
  have HZZ := Lib.hid hZ
  clear hZ
  refine wpAnyH_ready (rs := [9]) (by kernel_rfl) (by simp) (AllReadyH.cons rfl (fun K hK => ?_) AllReadyH.nil)
  go_simp
  have I1 := H1.out.alloc (.cells Z 62)
  have l1' := run_loadVar_sub (P := Tryz.prog) (w.alloc (.cells Z 62)).drew b 4 98304 _ _ cs _ _ I1 Tryz.underlying59 rfl (by kernel_rfl) (by rw [H2.out.size]; omega)
  have l2' := run_loadVar_sub (P := Tryz.prog) (w.alloc (.cells Z 62)).drew b 98308 24 _ _ cs _ _ I1 Tryz.underlying60 rfl (by kernel_rfl) (by rw [H2.out.size]; omega)
  rw [← HP.out] at l1'
  rw [← HW.out] at l2'
  refine hK.out _ _ ⟨l1', l2'⟩ (fun hHeld => ?_)
  clear hK K l1 l2 I1
  refine wpAnyH_take (i := 10) (v := ?_) rfl (by kernel_rfl) (by kernel_rfl) (by kernel_rfl) (fun _ _ _ h => h) (Or.inl ⟨by rfl, ?_⟩) (by assumption) ?_
  rotate_left
  · intro Wx hSw
    try dsimp only at hSw
    clear hSw
    go_simp
    try with_reducible rfl
  try simp only [Act.put]
  refine wpAnyH_done (by kernel_rfl) ?_ _
  clear l1' l2' hHeld
  simp only [List.getElem_toArray, List.getElem_cons_succ, List.getElem_cons_zero]
  go_wp2
  go_ret
  refine ⟨rfl, ?_, ((Fr.refl _ w).alloc _).drew⟩
  exact mem_again (Is.new w 62 Z) A0.out H2.out HP.out HW.out HZZ.out
end Go.Proofs.YtdoljggaoidljaaGreat

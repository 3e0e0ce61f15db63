/- The contract of Burn. -/
import Derived.Test.YtdoljggaoidljaaGreatActs
import Derived.Test.YtdoljggaoidljaaGreatShelfj
import Derived.Deep.RegionWith
namespace Go.Proofs.YtdoljggaoidljaaGreat
open Go.RowKit Go.Maps

theorem at_splice {cs : Array Value} {m : Mm} (h : At cs m) (p a : Nat) (t : List UInt8) (hp : p < 24) (ha : a + t.length ≤ 4096) : At (splice cs (4 + p * 4096 + a) (t.map B)) { m with pg := layP m.pg p a t } := by
  have hs : 4 + p * 4096 + a + (t.map B).length ≤ cs.size := by rw [h.size, List.length_map]; omega
  have out : ∀ i, (i < 4 + p * 4096 + a ∨ 4 + p * 4096 + a + t.length ≤ i) → (splice cs (4 + p * 4096 + a) (t.map B))[i]? = cs[i]? := fun i hi => by
    rw [splice_at _ _ _ _ hs, if_neg (by rw [List.length_map]; omega)]
  refine ⟨by rw [splice_size, h.size], (out 0 (by omega)).trans h.acts, (out 1 (by omega)).trans h.armed, (out 3 (by omega)).trans h.down, fun q i hq hi => ?_, fun q hq => (out _ (by omega)).trans (h.worn q hq)⟩
  by_cases hin : q = p ∧ a ≤ i ∧ i < a + t.length
  · obtain ⟨rfl, h1, h2⟩ := hin
    rw [splice_at _ _ _ _ hs, if_pos (by rw [List.length_map]; omega), show 4 + q * 4096 + i - (4 + q * 4096 + a) = i - a by omega, List.getElem?_map, List.getElem?_eq_getElem (by omega)]
    show some (B t[i - a]) = some (B (layP m.pg q a t q i))
    have := layP_in m.pg q a t (i - a) t[i - a] (List.getElem?_eq_getElem (by omega))
    rw [show a + (i - a) = i by omega] at this
    rw [this]
  · rw [out _ (by omega), h.pg q i hq hi]
    show some (B (m.pg q i)) = some (B (layP m.pg p a t q i))
    rw [layP_out m.pg p a t q i (by omega)]
theorem splice2 {cs : Array Value} (p a : Nat) (t : List UInt8) (hs : 98332 ≤ cs.size) (hp : p < 24) (ha : a + t.length ≤ 4096) : (splice cs (4 + p * 4096 + a) (t.map B))[2]? = cs[2]? := by
  rw [splice_at _ _ _ _ (by rw [List.length_map]; omega), if_neg (by omega)]

/-- the memory behind bytes that are written -/
theorem mem_lay {w : World} {b : Nat} {r : Option Nat} {m : Mm} (h : Mem w b r m) (p a : Nat) (t : List UInt8) (hp : p < 24) (ha : a + t.length ≤ 4096) :
    Mem (w.setCells b (4 + p * 4096 + a) (t.map B)) b r { m with pg := layP m.pg p a t } ∧ Fr (Foot b r) w (w.setCells b (4 + p * 4096 + a) (t.map B)) := by
  obtain ⟨cs, h1, h2, h3⟩ := h.ex
  have f := Fr.setCells (S := fun j => j = b) (b := b) (t.map B) (4 + p * 4096 + a) (Fr.refl _ w) (.inl rfl)
  exact ⟨⟨⟨_, Is.setCells _ _ _ _ h1, at_splice h2 p a t hp ha, by rw [splice2 p a t (by rw [h2.size]; exact Nat.le_refl _) hp ha]; exact h3⟩, fun hd => cuts_fr (h.cut hd) f fun k hk => ⟨h.lt k hk, fun e => h.ne (by rw [hk, e])⟩, h.lo, h.hi, h.ne, fun k hk => Nat.lt_of_lt_of_le (h.lt k hk) f.size⟩, f.mono fun j _ hj => .inl hj⟩

theorem join_jn (xs : List ByteArray) : Lib.join (xs.map (·.data.toList)) [] = jn xs := by
  cases xs with
  | nil => rfl
  | cons x r =>
    rw [List.map_cons, Lib.join_cons]
    unfold Lib.joinTail jn
    rw [List.map_cons, List.flatten_cons, List.map_map]
    rfl
theorem join_any {w : World} {A : Option Addr} {c : Nat} {xs : List ByteArray} (h : Rd w A (xs.map Value.string)) (hlen : xs.length ≤ 140737488355328) (hc : xs.length ≤ c) (hT : (jn xs).length ≤ 140737488355328) :
    Calls Tryz.prog 75 #[.slice A xs.length c, .string ⟨#[]⟩] w fun e w' => e = .returned (.string ⟨(jn xs).toArray⟩) ∧ Fr (fun _ => False) w w' := by
  rcases Nat.eq_zero_or_pos xs.length with h0 | h0
  · have : xs = [] := List.eq_nil_of_length_eq_zero h0
    subst this
    exact (Tryz.strings_Join_none A c ⟨#[]⟩ w).mono fun e w' ⟨he, hw⟩ => ⟨he, hw ▸ Fr.refl _ _⟩
  · obtain ⟨b, o, rfl, hb, hcell⟩ := h (by simpa using h0)
    have e : (⟨#[]⟩ : ByteArray).data.toList = [] := rfl
    have K := Tryz.strings_Join b o c xs ⟨#[]⟩ w (fun j x hx => hcell j (.string x) (by rw [List.getElem?_map, hx]; rfl)) hb hlen hc (by rw [e, join_jn]; exact hT)
    rw [e, join_jn] at K
    exact K.mono fun e w' ⟨he, hw⟩ => ⟨he, Fr.ofBelow hw⟩

/-- 'copy(dst, s)' from a text of at least as many bytes -/
theorem run_copy_part {P : Program} (w : World) (dT sT ty elem : TypeId) (b o n c : Nat) (l : List UInt8)
    (hu : P.underlying dT = some (.slice elem)) (hz : ∀ w, (Go.sizeOf elem).run P w = .ok 1 w) (hle : n ≤ l.length)
    (hc : ∀ j, j < n → (w.cell? ⟨b, o + j, none⟩).isSome = true) (hf : ∀ j, j < n → w.frozen? ⟨b, o + j, none⟩ = false) :
    (Builtin.copy_ #[dT, sT] ty #[.slice (some ⟨b, o, none⟩) n c, .string ⟨l.toArray⟩]).run P w = .ok (goInt n) (w.setCells b o ((l.take n).map B)) := by
  have hsz : (⟨l.toArray⟩ : ByteArray).size = l.length := rfl
  have hmin : Nat.min l.length n = n := Nat.min_eq_right hle
  have hl : ((l.take n).map B).length = n := by rw [List.length_map, List.length_take]; omega
  have hst := run_storeCells_cells (P := P) b o ((l.take n).map B) 0 w (by rw [hl]; simpa using hc) (by rw [hl]; simpa using hf) (by
    intro v hv
    obtain ⟨x, _, rfl⟩ := List.mem_map.1 hv
    rfl)
  simp [Builtin.copy_, run_underlying hu, Builtin.lenOf, Builtin.firstCells, hz, hsz, hmin]
  have he : List.take n (List.map (fun b : UInt8 => Value.int IntKind.u8 (b.toNat : Int)) l) = (l.take n).map B := by
    rw [List.map_take]
    rfl
  rw [he]
  simp only [Nat.add_zero] at hst
  rw [hst]
  simp [Result.andThen]

/-- the head of a slice of bytes -/
theorem headSlice (g o n c d : Nat) (hd : d ≤ c) (W : World) : (Instr.sliceAt 66 (.slice (some ⟨g, o, none⟩) n c) none (some (.int .i64 (d : Nat))) none).run Tryz.prog W = .ok (.slice (some ⟨g, o, none⟩) d c) W := by
  have e4 : (⟨g, o, none⟩ : Addr).add 0 = ⟨g, o, none⟩ := by simp [Addr.add]
  simp [Instr.sliceAt, Instr.slice, run_underlying Tryz.underlying66, Instr.sliceBounds, Instr.sliceBound, asIntOf, Tryz.sizeOf5, Result.andThen, hd, e4]

section
variable {w : World} {b : Nat} {r : Option Nat} {m : Mm}
theorem burn_end {w2 : World} {p a o : Nat} {t : List UInt8} (h : Mem w2 b r m.act) (hp : p < 24) (ha : a + t.length ≤ 4096) (ho : 0 < t.length → o = 4 + p * 4096 + a) (hb : m.burnM p a t = { m.act with pg := layP m.pg p a (t.take (m.part t.length)) }) :
    Mem (w2.setCells b o ((t.map B).take (m.part t.length))) b r (m.burnM p a t) ∧ Fr (Foot b r) w2 (w2.setCells b o ((t.map B).take (m.part t.length))) := by
  rw [hb, ← List.map_take]
  have hl := part_le m t.length
  rcases Nat.eq_zero_or_pos t.length with h0 | h0
  · have ht : t = [] := List.eq_nil_of_length_eq_zero h0
    subst ht
    rw [List.take_nil, layP_nil]
    exact ⟨h, Fr.refl _ _⟩
  · rw [ho h0]
    have := mem_lay h p a (t.take (m.part t.length)) hp (by rw [List.length_take]; omega)
    exact this

theorem burnE_no {p a : Int} {t : List UInt8} (h : ¬ m.spotE p a t.length = 0) : m.burnE p a t = m.spotE p a t.length ∧ m.burnM p a t = m := by
  unfold Mm.burnE Mm.burnM
  exact ⟨by rw [if_neg h], by rw [if_neg fun k => h k.1]⟩
theorem burnE_burnt {p a : Int} {t : List UInt8} (h : m.spotE p a t.length = 0) (hb : ¬ m.burnt p a t.length = 0) : m.burnE p a t = 15 ∧ m.burnM p a t = m := by
  unfold Mm.burnE Mm.burnM
  exact ⟨by rw [if_pos h, if_neg hb], by rw [if_neg fun k => hb k.2]⟩
theorem burnE_ok {p a : Int} {t : List UInt8} (h : m.spotE p a t.length = 0) (hb : m.burnt p a t.length = 0) : m.burnE p a t = m.actE ∧ m.burnM p a t = { m.act with pg := layP m.pg p.toNat a.toNat (t.take (m.part t.length)) } := by
  unfold Mm.burnE Mm.burnM
  exact ⟨by rw [if_pos h, if_pos hb], by rw [if_pos ⟨h, hb⟩]⟩

set_option maxHeartbeats 4000000 in
theorem burn_any (h : Mem w b r m) (hk : m.acts < 4611686018427387904) (p a : Int) (hp1 : -9223372036854775808 ≤ p) (hp2 : p ≤ 9223372036854775807) (ha1 : -9223372036854775808 ≤ a) (ha2 : a ≤ 9223372036854775807)
    {A : Option Addr} {c : Nat} {xs : List ByteArray} (hx : Rd w A (xs.map Value.string)) (hxA : ∀ k, blk A = some k → ¬ Foot b r k) (hlen : xs.length ≤ 140737488355328) (hc : xs.length ≤ c) (hT : (jn xs).length ≤ 140737488355328) :
    Calls Tryz.prog 56 #[.pointer (some ⟨b, 0, none⟩), .int .i64 p, .int .i64 a, .slice A xs.length c] w fun e w' => e = .returned (.int .i64 (m.burnE p a (jn xs) : Nat)) ∧ Mem w' b r (m.burnM p a (jn xs)) ∧ Fr (Foot b r) w w' := by
  have KS := size_any (c := c) hx hlen (by omega)
  have HM := Lib.hid h
  have hb := h.blt
  by_cases hs : m.spotE p a (jn xs).length = 0
  · obtain ⟨hd, q, a', n', rfl, rfl, hn, hq, ha⟩ := spot_ok hs
    have hn' : n' = (jn xs).length := by omega
    subst hn'
    have HD := Lib.hid hd
    have KP := places_ok h q a' (jn xs).length hq ha hd
    have HB : Hid (m.burnt (q : Int) (a' : Int) (jn xs).length = bareN (fun i => m.pg q (a' + i)) (jn xs).length) := Lib.hid rfl
    have rb := h.rb hq ha
    have hle := part_le m (jn xs).length
    by_cases hbt : m.burnt (q : Int) (a' : Int) (jn xs).length = 0
    · obtain ⟨hE, hM⟩ := burnE_ok hs hbt
      have HE := Lib.hid hE
      have HN := Lib.hid hM
      have HZ : Hid (bareN (fun i => m.pg q (a' + i)) (jn xs).length = 0) := Lib.hid (by rw [← HB.out]; exact hbt)
      have KA := act_any h hd hk (jn xs).length (by omega)
      have HX := Lib.hid hx
      have HXA := Lib.hid hxA
      have HR := Lib.hid rb
      clear h hs hd hn hE hM hbt hx hxA rb
      go_enter Tryz.func56, Tryz.ntmps56
      go_wp2_with (first
        | (go_at_call 79; refine KS.mono ?_; rintro e w' ⟨rfl, rfl⟩)
        | (go_at_call 40; refine KP.mono ?_; rintro e w' ⟨⟨o, rfl, ho⟩, rfl⟩; have HO := Lib.hid ho; clear ho)
        | (go_at_call 76; refine (bareFrom_any (f := fun i => m.pg q (a' + i)) (fun h0 => by rw [HO.out h0]; exact HR.out h0) (by omega)).mono ?_; rintro e w' ⟨rfl, rfl⟩; rw [HZ.out])
        | (go_at_call 77; refine KA.mono ?_; rintro e w1 ⟨rfl, M1, F1⟩))
      have hsl := headSlice b o (jn xs).length (4096 - a') (m.part (jn xs).length) (by omega)
      have hx1 : Rd w1.drew A (xs.map Value.string) := (HX.out.fr F1 HXA.out).fr ((Fr.refl (fun _ => False) w1).drew) fun _ _ => id
      have KJ := Lib.hid (join_any (c := c) hx1 hlen hc hT)
      have HM1 := Lib.hid M1
      clear hx1 M1 KP KS KA
      go_region_with (first
        | (go_at_call 75; refine KJ.out.mono ?_; rintro e w2 ⟨rfl, F2⟩; have HM2 := Lib.hid (HM1.out.none (((Fr.refl (fun _ => False) w1).drew).trans F2 fun _ _ => id)); have hcp := fun ty => run_copy_part (P := Tryz.prog) w2 66 9 ty 5 b o (m.part (jn xs).length) (4096 - a') (jn xs) Tryz.underlying66 Tryz.sizeOf5 hle (fun j hj => by rw [HO.out (by omega), Nat.add_assoc, HM2.out.cpg hq (by omega)]; rfl) (fun j hj => HM2.out.frz _)))
      all_goals
        go_wp2
        go_ret
        obtain ⟨M3, F3⟩ := burn_end HM2.out hq ha HO.out HN.out
        exact ⟨by rw [HE.out]; rfl, M3, (F1.drew.trans F2 fun _ _ k => k.elim).trans F3 fun _ _ k => k⟩
    · obtain ⟨hE, hM⟩ := burnE_burnt hs hbt
      have HE := Lib.hid hE
      have HN := Lib.hid hM
      obtain ⟨z, hz⟩ : ∃ z, bareN (fun i => m.pg q (a' + i)) (jn xs).length = z + 1 := ⟨_, (Nat.succ_pred_eq_of_pos (Nat.pos_of_ne_zero (by rw [← HB.out]; exact hbt))).symm⟩
      have HZ := Lib.hid hz
      have HR := Lib.hid rb
      clear h hs hd hn hE hM hbt hx hxA rb hz
      go_enter Tryz.func56, Tryz.ntmps56
      go_wp2_with (first
        | (go_at_call 79; refine KS.mono ?_; rintro e w' ⟨rfl, rfl⟩)
        | (go_at_call 40; refine KP.mono ?_; rintro e w' ⟨⟨o, rfl, ho⟩, rfl⟩; have HO := Lib.hid ho; clear ho)
        | (go_at_call 76; refine (bareFrom_any (f := fun i => m.pg q (a' + i)) (fun h0 => by rw [HO.out h0]; exact HR.out h0) (by omega)).mono ?_; rintro e w' ⟨rfl, rfl⟩; rw [HZ.out]))
      go_ret
      exact ⟨by rw [HE.out]; rfl, by rw [HN.out]; exact HM.out, Fr.refl _ _⟩
  · obtain ⟨hE, hM⟩ := burnE_no hs
    have HE := Lib.hid hE
    have HN := Lib.hid hM
    have KP := places_no h p a (jn xs).length hp1 hp2 ha1 ha2 (by omega) (by omega) hs
    obtain ⟨z, hz⟩ : ∃ z, m.spotE p a (jn xs).length = z + 1 := ⟨_, (Nat.succ_pred_eq_of_pos (Nat.pos_of_ne_zero hs)).symm⟩
    rw [hz] at KP
    have HZ := Lib.hid hz
    clear h hs hE hM hx hxA hz
    go_enter Tryz.func56, Tryz.ntmps56
    go_wp2_with (first
      | (go_at_call 79; refine KS.mono ?_; rintro e w' ⟨rfl, rfl⟩)
      | (go_at_call 40; refine KP.mono ?_; rintro e w' ⟨rfl, rfl⟩))
    go_ret
    exact ⟨by rw [HE.out, HZ.out]; rfl, by rw [HN.out]; exact HM.out, Fr.refl _ _⟩
end
end Go.Proofs.YtdoljggaoidljaaGreat

/- The contracts of the journal's framed, recordFrame, headFrame. -/
import Derived.Test.YtdoljggaoidljaaGreatWhole
import Derived.Test.YtdoljggaoidljaaGreatApp
namespace Go.Proofs.YtdoljggaoidljaaGreat
open Go.RowKit

theorem done_ok {s : Pk.S} (h : s.e = 0) : s.done = (s.bs, 0) := by unfold Pk.S.done; rw [if_pos h]
theorem two_rd (w : World) (x y : Value) (t : TypeId) : Rd (w.alloc (.cells #[x, y] t)) (some ⟨w.heap.size, 0, none⟩) [x, y] := fun _ =>
  ⟨w.heap.size, 0, rfl, (Is.new w t #[x, y]).lt, fun j u hu => by
    rw [Nat.zero_add, (Is.new w t #[x, y]).cell]
    show ([x, y].toArray)[j]? = _
    rw [List.getElem?_toArray]
    exact hu⟩
theorem framed_any {w : World} {b : Nat} {F : Option Nat} {s : Pk.S} (h : Pa.Wr w b F s) (he : s.e = 0) {A : Option Addr} {c : Nat} {xs : List ByteArray} (hx : Rd w A (xs.map Value.string)) (hlen : xs.length ≤ 1000) (hc : xs.length ≤ c) (hT : (s.bs ++ Se.jn xs).length ≤ 1024) :
    Calls Tryz.prog 52 #[.pointer (some ⟨b, 0, none⟩), .slice A xs.length c] w fun e w' => e = .returned (.string ⟨(Jo.fram (s.bs ++ Se.jn xs)).toArray⟩) ∧ Fr (fun _ => False) w w' := by
  have KD := Pa.done_any h
  rw [done_ok he] at KD
  have hT2 : (Se.jn xs).length ≤ 140737488355328 := by rw [List.length_append] at hT; omega
  have HX := Lib.hid hx
  have e1 : Se.jn [⟨s.bs.toArray⟩, ⟨(Se.jn xs).toArray⟩] = s.bs ++ Se.jn xs := by
    show s.bs ++ (Se.jn xs ++ []) = _
    rw [List.append_nil]
  have e2 : Se.frameL (s.bs ++ Se.jn xs) = (Crc.frame (s.bs ++ Se.jn xs), 0) := by unfold Se.frameL; rw [if_neg (by omega)]
  have HE : Hid (∀ (W : World) (c' : Nat), 2 ≤ c' → Rd W (some ⟨W.heap.size - 1, 0, none⟩) [Value.string ⟨s.bs.toArray⟩, .string ⟨(Se.jn xs).toArray⟩] → Calls Tryz.prog 74 #[.slice (some ⟨W.heap.size - 1, 0, none⟩) 2 c'] W fun e w' => e = .returned (.tuple #[.string ⟨(Crc.frame (s.bs ++ Se.jn xs)).toArray⟩, .int .i64 0]) ∧ Fr (fun _ => False) W w') := Lib.hid fun W c' hc' hr => by
    have := Se.seal_any (xs := [⟨s.bs.toArray⟩, ⟨(Se.jn xs).toArray⟩]) (c := c') hr (by simp) hc' (by rw [e1]; omega)
    rw [e1, e2] at this
    exact this
  have e3 : (⟨(Crc.frame (s.bs ++ Se.jn xs)).toArray⟩ : ByteArray) ++ ⟨#[0]⟩ = ⟨(Jo.fram (s.bs ++ Se.jn xs)).toArray⟩ := by
    apply bytes_eq
    rw [bytesOf_append]
    rfl
  have HF := Lib.hid e3
  have hlen2 : xs.length ≤ 140737488355328 := by omega
  have hfz : (⟨(Crc.frame (s.bs ++ Se.jn xs)).toArray⟩ : ByteArray).size ≤ 1100 := by
    show (Crc.frame (s.bs ++ Se.jn xs)).length ≤ 1100
    rw [Crc.frame_length]; omega
  clear h hx hT e1 e2 e3 he
  go_enter Tryz.func52, Tryz.ntmps52
  go_wp2_with fail
  refine KD.mono ?_
  rintro e w1 ⟨rfl, n1, rfl⟩
  have F1 := (Fr.refl (fun _ => False) w).drewN n1
  have KJ := Se.join_any (HX.out.fr F1 fun _ _ => id) hlen2 hc hT2
  have HF1 := Lib.hid F1
  clear F1 KD
  generalize w.drewN n1 = W1 at *
  generalize (⟨(Se.jn xs).toArray⟩ : ByteArray) = y at *
  generalize (⟨s.bs.toArray⟩ : ByteArray) = x at *
  go_wp2_with fail
  refine KJ.mono ?_
  rintro e w2 ⟨rfl, F2⟩
  clear KJ
  have F3 := (HF1.out.trans F2 fun _ _ h => h).alloc (.cells #[.string x, .string y] 9)
  have r3 := two_rd w2 (.string x) (.string y) 9
  have hz : (w2.alloc (.cells #[.string x, .string y] 9)).heap.size - 1 = w2.heap.size := by simp
  have KS := HE.out (w2.alloc (.cells #[.string x, .string y] 9)) 2 (Nat.le_refl _)
  rw [hz] at KS
  have KS2 := KS r3
  have HF3 := Lib.hid F3
  clear KS r3 hz F3 F2 HE
  go_wp2_with fail
  refine KS2.mono ?_
  rintro e w4 ⟨rfl, F4⟩
  have F5 := HF3.out.trans F4 fun _ _ h => h
  have HF5 := Lib.hid F5
  clear KS2 F4 F5
  generalize hfr : (⟨(Crc.frame (s.bs ++ Se.jn xs)).toArray⟩ : ByteArray) = fr at *
  go_wp2_with fail
  go_ret
  exact ⟨by rw [HF.out]; rfl, HF5.out⟩

theorem nums_one (k : Int) (hk : k = 0 ∨ k = 1 ∨ k = 2) (s : Pk.S) (he : s.e = 0) (hl : (s.bs.length : Int) + 1 ≤ s.L) : s.nums 1 [k] = { s with bs := s.bs ++ [UInt8.ofNat k.toNat] } := by
  have hd : Pk.digits 1 k = [UInt8.ofNat k.toNat] := by rcases hk with rfl | rfl | rfl <;> rfl
  have hf : Pk.fits 1 k = true := by rcases hk with rfl | rfl | rfl <;> rfl
  show s.num 1 k = _
  unfold Pk.S.num Pk.S.put
  rw [if_pos hf, if_pos he, hd, if_pos (by simp; omega)]
set_option maxRecDepth 10000 in
theorem nums_two (a b : Nat) (ha : a < 4294967296) (hb : b < 4294967296) (s : Pk.S) (he : s.e = 0) (hl : (s.bs.length : Int) + 8 ≤ s.L) : s.nums 4 [(a : Int), (b : Int)] = { s with bs := s.bs ++ (Jo.num4 a ++ Jo.num4 b) } := by
  have hd : ∀ n : Nat, n < 4294967296 → Pk.digits 4 (n : Int) = Jo.num4 n := fun n hn => by
    show [Pk.dig 4 n 0, Pk.dig 4 n 1, Pk.dig 4 n 2, Pk.dig 4 n 3] = _
    have h0 : Pk.dig 4 n 0 = UInt8.ofNat (n / 16777216) := by
      apply UInt8.toNat_inj.1
      unfold Pk.dig
      rw [UInt8.toNat_ofNat', UInt8.toNat_ofNat']
      show ((n : Int) / 16777216 % 256).toNat % 256 = _
      omega
    have h1 : Pk.dig 4 n 1 = UInt8.ofNat (n / 65536) := by
      apply UInt8.toNat_inj.1
      unfold Pk.dig
      rw [UInt8.toNat_ofNat', UInt8.toNat_ofNat']
      show ((n : Int) / 65536 % 256).toNat % 256 = _
      omega
    have h2 : Pk.dig 4 n 2 = UInt8.ofNat (n / 256) := by
      apply UInt8.toNat_inj.1
      unfold Pk.dig
      rw [UInt8.toNat_ofNat', UInt8.toNat_ofNat']
      show ((n : Int) / 256 % 256).toNat % 256 = _
      omega
    have h3 : Pk.dig 4 n 3 = UInt8.ofNat n := by
      apply UInt8.toNat_inj.1
      unfold Pk.dig
      rw [UInt8.toNat_ofNat', UInt8.toNat_ofNat']
      show ((n : Int) / 1 % 256).toNat % 256 = _
      omega
    rw [h0, h1, h2, h3]
    rfl
  have hf : ∀ n : Nat, n < 4294967296 → Pk.fits 4 (n : Int) = true := fun n hn => by
    unfold Pk.fits
    rw [Bool.and_eq_true, decide_eq_true_eq, decide_eq_true_eq]
    refine ⟨by omega, ?_⟩
    show (n : Int) < 4294967296
    omega
  have hl4 : ∀ n, (Jo.num4 n).length = 4 := fun n => rfl
  rw [Pk.S.nums_cons, Pk.S.nums_cons, show ∀ q : Pk.S, q.nums 4 [] = q from fun _ => rfl]
  have e1 : s.num 4 a = { s with bs := s.bs ++ Jo.num4 a } := by
    unfold Pk.S.num Pk.S.put
    rw [if_pos (hf a ha), if_pos he, hd a ha, if_pos (by rw [hl4]; omega)]
  rw [e1]
  unfold Pk.S.num Pk.S.put
  rw [if_pos (hf b hb), if_pos he, hd b hb, if_pos (by rw [hl4]; simp only [List.length_append, hl4]; omega), List.append_assoc]
theorem one_rd (w : World) (x : Value) (t : TypeId) : Rd (w.alloc (.cells #[x] t)) (some ⟨w.heap.size, 0, none⟩) [x] := Rd.one w x t
set_option maxHeartbeats 1000000 in
theorem record_any (n k : Int) (x : ByteArray) (hk : k = 1 ∨ k = 2) (hx : x.size ≤ 1000) (w : World) :
    Calls Tryz.prog 34 #[.agg #[.int .i64 n, .int .i64 k, .string x]] w fun e w' => e = .returned (.string ⟨(Jo.fram (Jo.recB ⟨k, bytesOf x⟩)).toArray⟩) ∧ Fr (fun _ => False) w w' := by
  have f1 := (Fr.refl (fun _ => False) w).alloc (.cells #[.int .i64 n, .int .i64 k, .string x] 49)
  have i1 := Is.new w 49 #[.int .i64 n, .int .i64 k, .string x]
  obtain ⟨ob, hob⟩ : ∃ ob, ob = w.heap.size := ⟨_, rfl⟩
  rw [← hob] at i1
  have K1 := Pa.new_any 1 (w.alloc (.cells #[.int .i64 n, .int .i64 k, .string x] 49))
  have W1 := Pa.new_wr 1 (w.alloc (.cells #[.int .i64 n, .int .i64 k, .string x] 49)) (by decide)
  have hm : max (1 : Int) 0 = 1 := rfl
  rw [hm] at K1 W1
  have hobw : ob < (w.alloc (.cells #[.int .i64 n, .int .i64 k, .string x] 49)).heap.size := by rw [hob]; simp
  have HOB : Hid (w.heap.size ≤ ob) := Lib.hid (by omega)
  have HN := Lib.hid (nums_one k (by omega) ⟨1, [], 0⟩ rfl (by decide))
  go_enter Tryz.func34, Tryz.ntmps34
  go_wp2_with fail
  rw [← hob]
  clear hob
  generalize w.alloc (.cells #[.int .i64 n, .int .i64 k, .string x] 49) = wa at *
  obtain ⟨b, hb⟩ : ∃ b, b = wa.heap.size := ⟨_, rfl⟩
  rw [← hb] at K1 W1
  have hbo : ob ≠ b := by omega
  have hbw : w.heap.size ≤ b := by have := f1.size; omega
  clear hb
  refine K1.mono ?_
  rintro e w2 ⟨rfl, hw2⟩
  have f2 : Fr (fun _ => False) w w2 := by rw [hw2]; exact f1.alloc _
  have i2 : Is w2 ob 49 #[.int .i64 n, .int .i64 k, .string x] := by rw [hw2]; exact i1.alloc _
  rw [← hw2] at W1
  have k1 : w2.cell? ⟨ob, 1, none⟩ = some (.int .i64 k) := i2.cell 1
  have hbl := W1.lt
  have f3 := f2.alloc (.cells #[.int .i64 k] 3)
  have i3 := i2.alloc (.cells #[.int .i64 k] 3)
  have W3 := W1.fr ((Fr.refl (fun _ => False) w2).alloc (.cells #[.int .i64 k] 3)) id fun _ _ => id
  have r3 : Rd (w2.alloc (.cells #[.int .i64 k] 3)) (some ⟨w2.heap.size, 0, none⟩) ([k].map (Value.int .i64)) := one_rd w2 _ _
  have KB := Pa.byte_any W3 (some ⟨w2.heap.size, 0, none⟩) 1 [k] r3 (fun e => by have e' : w2.heap.size = b := by { injection e }; omega) (fun _ h => by cases h) (by simp) (.inl (by decide))
  rw [HN.out] at KB
  have HF3 := Lib.hid f3
  have HI3 := Lib.hid i3
  clear hw2 f1 f2 i1 i2 W1 W3 r3 f3 i3 K1
  go_wp2_with fail
  refine KB.mono ?_
  rintro e w4 ⟨rfl, F4, W4, M4⟩
  have f4 := HF3.out.trans M4.1 fun j hj h => by
    rcases h with rfl | h
    · omega
    · cases h
  have i4 := HI3.out.fr M4.1 fun h => by
    rcases h with h | h
    · exact hbo h
    · cases h
  have k2 : w4.cell? ⟨ob, 2, none⟩ = some (.string x) := i4.cell 2
  have f5 := f4.alloc (.cells #[.string x] 9)
  have W5 := W4.fr ((Fr.refl (fun _ => False) w4).alloc (.cells #[.string x] 9)) id fun _ _ => id
  have hj : Se.jn [x] = bytesOf x := by show bytesOf x ++ [] = _; rw [List.append_nil]
  have KF := framed_any W5 rfl (A := some ⟨w4.heap.size, 0, none⟩) (c := 1) (xs := [x]) (one_rd w4 _ _) (by simp) (by simp) (by rw [hj]; simp only [List.nil_append, List.length_append, List.length_cons, List.length_nil]; rw [bytesOf_length]; omega)
  have he : Jo.fram (([] ++ [UInt8.ofNat k.toNat]) ++ Se.jn [x]) = Jo.fram (Jo.recB ⟨k, bytesOf x⟩) := by rw [hj]; rfl
  rw [he] at KF
  have HF5 := Lib.hid f5
  clear f4 f5 W4 W5 M4 KB HF3 HI3 i4 he hj HN
  obtain ⟨y, hy⟩ : ∃ y : ByteArray, y = ⟨(Jo.fram (Jo.recB ⟨k, bytesOf x⟩)).toArray⟩ := ⟨_, rfl⟩
  rw [← hy] at KF
  have HY := Lib.hid hy
  clear hy
  go_wp2_with fail
  refine KF.mono ?_
  rintro e w6 ⟨rfl, F6⟩
  have HF6 := Lib.hid (HF5.out.trans F6 fun _ _ h => h)
  clear F6 KF
  go_wp2_with fail
  go_ret
  exact ⟨by rw [← HY.out]; rfl, HF6.out⟩

/-- a safety state as it lies: its text, and is there one -/
def safeT (o : Option (List UInt8)) : ByteArray := ⟨(o.getD []).toArray⟩
theorem head_kind (n f : Nat) (o : Option (List UInt8)) : ∃ k : Int, (k = 0 ∨ k = 1 ∨ k = 2) ∧ (o.isSome = true ∧ k = 1 ∨ o.isSome = false ∧ k = 0) ∧ Jo.headB n f o = Jo.num4 n ++ (Jo.num4 f ++ (UInt8.ofNat k.toNat :: o.getD [])) := by
  cases o with
  | none => exact ⟨0, .inl rfl, .inr ⟨rfl, rfl⟩, rfl⟩
  | some t => exact ⟨1, .inr (.inl rfl), .inl ⟨rfl, rfl⟩, rfl⟩
set_option maxRecDepth 10000 in
set_option maxHeartbeats 1000000 in
theorem head_any (n f : Nat) (o : Option (List UInt8)) (hn : n < 4294967296) (hf : f < 4294967296) (ho : (o.getD []).length ≤ 1000) (w : World) :
    Calls Tryz.prog 55 #[.int .i64 (n : Int), .int .i64 (f : Int), .agg #[.string (safeT o), .bool o.isSome]] w fun e w' => e = .returned (.string ⟨(Jo.fram (Jo.headB n f o)).toArray⟩) ∧ Fr (fun _ => False) w w' := by
  have f1 := (Fr.refl (fun _ => False) w).alloc (.cells #[.string (safeT o), .bool o.isSome] 45)
  have i1 := Is.new w 45 #[.string (safeT o), .bool o.isSome]
  obtain ⟨ob, hob⟩ : ∃ ob, ob = w.heap.size := ⟨_, rfl⟩
  rw [← hob] at i1
  have K1 := Pa.new_any 9 (w.alloc (.cells #[.string (safeT o), .bool o.isSome] 45))
  have W1 := Pa.new_wr 9 (w.alloc (.cells #[.string (safeT o), .bool o.isSome] 45)) (by decide)
  have hm : max (9 : Int) 0 = 9 := rfl
  rw [hm] at K1 W1
  have hobw : ob < (w.alloc (.cells #[.string (safeT o), .bool o.isSome] 45)).heap.size := by rw [hob]; simp
  have HOB : Hid (w.heap.size ≤ ob) := Lib.hid (by omega)
  obtain ⟨k, hk, hkb, hkB⟩ := head_kind n f o
  have HN := Lib.hid (nums_two n f hn hf ⟨9, [], 0⟩ rfl (by decide))
  have HM := Lib.hid (nums_one k hk ⟨9, [] ++ (Jo.num4 n ++ Jo.num4 f), 0⟩ rfl (by show ((([] ++ (Jo.num4 n ++ Jo.num4 f) : List UInt8).length : Nat) : Int) + 1 ≤ 9; simp [Jo.num4]))
  have hj : Se.jn [safeT o] = o.getD [] := by show bytesOf (safeT o) ++ [] = _; rw [List.append_nil]; rfl
  have HJ := Lib.hid hj
  have HB : Hid (Jo.fram ((([] ++ (Jo.num4 n ++ Jo.num4 f)) ++ [UInt8.ofNat k.toNat]) ++ Se.jn [safeT o]) = Jo.fram (Jo.headB n f o)) := Lib.hid (by
    rw [hj, hkB]
    simp only [List.nil_append, List.append_assoc, List.cons_append])
  have HL : Hid ((([] ++ (Jo.num4 n ++ Jo.num4 f)) ++ [UInt8.ofNat k.toNat] ++ Se.jn [safeT o]).length ≤ 1024) := Lib.hid (by
    rw [hj]
    simp only [List.length_append, List.length_cons, List.length_nil, show (Jo.num4 n).length = 4 from rfl, show (Jo.num4 f).length = 4 from rfl]
    omega)
  clear hj hn hf ho hk hkB
  generalize safeT o = st at *
  generalize o.isSome = kn at *
  obtain ⟨y, hy⟩ : ∃ y : ByteArray, y = ⟨(Jo.fram (Jo.headB n f o)).toArray⟩ := ⟨_, rfl⟩
  have HY := Lib.hid hy
  clear hy
  have key : ∀ b0 : Bool, kn = b0 → Calls Tryz.prog 55 #[.int .i64 (n : Int), .int .i64 (f : Int), .agg #[.string st, .bool b0]] w fun e w' => e = .returned (.string y) ∧ Fr (fun _ => False) w w' := by
    intro b0 hb0
    subst hb0
    rcases hkb with ⟨rfl, rfl⟩ | ⟨rfl, rfl⟩
    · go_enter Tryz.func55, Tryz.ntmps55
      go_wp2_with fail
      rw [← hob]
      clear hob
      generalize w.alloc (.cells #[.string st, .bool _] 45) = wa at *
      obtain ⟨b, hb⟩ : ∃ b, b = wa.heap.size := ⟨_, rfl⟩
      rw [← hb] at K1 W1
      have hbo : ob ≠ b := by omega
      have hbw : w.heap.size ≤ b := by have := f1.size; omega
      clear hb
      refine K1.mono ?_
      rintro e w2 ⟨rfl, hw2⟩
      have f2 := f1.alloc (.cells #[.int .i64 9, .slice none 0 0, .int .i64 0] 132)
      have i2 := i1.alloc (.cells #[.int .i64 9, .slice none 0 0, .int .i64 0] 132)
      rw [← hw2] at W1 f2 i2
      have hbl := W1.lt
      have f3 := f2.alloc (.cells #[.int .i64 (n : Int), .int .i64 (f : Int)] 3)
      have i3 := i2.alloc (.cells #[.int .i64 (n : Int), .int .i64 (f : Int)] 3)
      have W3 := W1.fr ((Fr.refl (fun _ => False) w2).alloc (.cells #[.int .i64 (n : Int), .int .i64 (f : Int)] 3)) id fun _ _ => id
      have r3 : Rd (w2.alloc (.cells #[.int .i64 (n : Int), .int .i64 (f : Int)] 3)) (some ⟨w2.heap.size, 0, none⟩) ([(n : Int), (f : Int)].map (Value.int .i64)) := two_rd w2 _ _ _
      have KB := Pa.long_any W3 (some ⟨w2.heap.size, 0, none⟩) 2 [(n : Int), (f : Int)] r3 (fun e => by have e' : w2.heap.size = b := by { injection e }; omega) (fun _ h => by cases h) (by simp) (.inl (by decide))
      rw [HN.out] at KB
      have HF3 := Lib.hid f3
      have HI3 := Lib.hid i3
      clear hw2 f1 f2 i1 i2 W1 W3 r3 f3 i3 K1
      go_wp2_with fail
      refine KB.mono ?_
      rintro e w4 ⟨rfl, F4, W4, M4⟩
      have f4 := HF3.out.trans M4.1 fun j hj h => by
        rcases h with rfl | h
        · omega
        · cases h
      have i4 := HI3.out.fr M4.1 fun h => by
        rcases h with h | h
        · exact hbo h
        · cases h
      have hFw : ∀ q, F4 = some q → w.heap.size ≤ q := fun q hq => by
        rcases M4.2 with e | ⟨g, e, hg⟩
        · rw [e] at hq; cases hq
        · rw [e] at hq; injection hq with hq; have := HF3.out.size; omega
      have hFo : ∀ q, F4 = some q → q ≠ ob := fun q hq => by
        rcases M4.2 with e | ⟨g, e, hg⟩
        · rw [e] at hq; cases hq
        · rw [e] at hq; injection hq with hq; have := HI3.out.lt; omega
      have hbl4 := W4.lt
      have hFl := W4.ltF
      have W5 := fun v => W4.fr ((Fr.refl (fun _ => False) w4).alloc (.cells #[.int .i64 v] 3)) id fun _ _ => id
      have KC := fun v => Pa.byte_any (W5 v) (some ⟨w4.heap.size, 0, none⟩) 1 [v] (one_rd w4 _ _) (fun e => by have e' : w4.heap.size = b := by { injection e }; omega) (fun q h e => by have e' : w4.heap.size = q := by { injection e }; have := hFl q h; omega) (by simp) (.inl (show (9 : Int) ≤ 140737488355328 by decide))
      have KC1 := KC 1
      rw [HM.out] at KC1
      have HF5 := Lib.hid f4
      have HI5 := Lib.hid i4
      have HFw := Lib.hid hFw
      have HFo := Lib.hid hFo
      clear f4 i4 W4 W5 M4 KB HF3 HI3 KC hFw hFo hFl
      go_wp2_with fail
      refine KC1.mono ?_
      rintro e w6 ⟨rfl, F6, W6, M6⟩
      have f6 := (HF5.out.alloc _).trans M6.1 fun j hj h => by
        rcases h with rfl | h
        · omega
        · have := HFw.out j h; omega
      have i6 := (HI5.out.alloc _).fr M6.1 fun h => by
        rcases h with h | h
        · exact hbo h
        · exact HFo.out ob h rfl
      have k2 : w6.cell? ⟨ob, 0, none⟩ = some (.string st) := i6.cell 0
      have f7 := f6.alloc (.cells #[.string st] 9)
      have W7 := W6.fr ((Fr.refl (fun _ => False) w6).alloc (.cells #[.string st] 9)) id fun _ _ => id
      have KF := framed_any W7 rfl (A := some ⟨w6.heap.size, 0, none⟩) (c := 1) (xs := [st]) (one_rd w6 _ _) (by simp) (by simp) HL.out
      rw [HB.out, ← HY.out] at KF
      have HF7 := Lib.hid f7
      clear f6 f7 W6 W7 M6 KC1 HF5 HI5 i6
      go_wp2_with fail
      refine KF.mono ?_
      rintro e w8 ⟨rfl, F8⟩
      have HF8 := Lib.hid (HF7.out.trans F8 fun _ _ h => h)
      clear F8 KF
      go_wp2_with fail
      go_ret
      exact ⟨rfl, HF8.out⟩
    · go_enter Tryz.func55, Tryz.ntmps55
      go_wp2_with fail
      rw [← hob]
      clear hob
      generalize w.alloc (.cells #[.string st, .bool _] 45) = wa at *
      obtain ⟨b, hb⟩ : ∃ b, b = wa.heap.size := ⟨_, rfl⟩
      rw [← hb] at K1 W1
      have hbo : ob ≠ b := by omega
      have hbw : w.heap.size ≤ b := by have := f1.size; omega
      clear hb
      refine K1.mono ?_
      rintro e w2 ⟨rfl, hw2⟩
      have f2 := f1.alloc (.cells #[.int .i64 9, .slice none 0 0, .int .i64 0] 132)
      have i2 := i1.alloc (.cells #[.int .i64 9, .slice none 0 0, .int .i64 0] 132)
      rw [← hw2] at W1 f2 i2
      have hbl := W1.lt
      have f3 := f2.alloc (.cells #[.int .i64 (n : Int), .int .i64 (f : Int)] 3)
      have i3 := i2.alloc (.cells #[.int .i64 (n : Int), .int .i64 (f : Int)] 3)
      have W3 := W1.fr ((Fr.refl (fun _ => False) w2).alloc (.cells #[.int .i64 (n : Int), .int .i64 (f : Int)] 3)) id fun _ _ => id
      have r3 : Rd (w2.alloc (.cells #[.int .i64 (n : Int), .int .i64 (f : Int)] 3)) (some ⟨w2.heap.size, 0, none⟩) ([(n : Int), (f : Int)].map (Value.int .i64)) := two_rd w2 _ _ _
      have KB := Pa.long_any W3 (some ⟨w2.heap.size, 0, none⟩) 2 [(n : Int), (f : Int)] r3 (fun e => by have e' : w2.heap.size = b := by { injection e }; omega) (fun _ h => by cases h) (by simp) (.inl (by decide))
      rw [HN.out] at KB
      have HF3 := Lib.hid f3
      have HI3 := Lib.hid i3
      clear hw2 f1 f2 i1 i2 W1 W3 r3 f3 i3 K1
      go_wp2_with fail
      refine KB.mono ?_
      rintro e w4 ⟨rfl, F4, W4, M4⟩
      have f4 := HF3.out.trans M4.1 fun j hj h => by
        rcases h with rfl | h
        · omega
        · cases h
      have i4 := HI3.out.fr M4.1 fun h => by
        rcases h with h | h
        · exact hbo h
        · cases h
      have hFw : ∀ q, F4 = some q → w.heap.size ≤ q := fun q hq => by
        rcases M4.2 with e | ⟨g, e, hg⟩
        · rw [e] at hq; cases hq
        · rw [e] at hq; injection hq with hq; have := HF3.out.size; omega
      have hFo : ∀ q, F4 = some q → q ≠ ob := fun q hq => by
        rcases M4.2 with e | ⟨g, e, hg⟩
        · rw [e] at hq; cases hq
        · rw [e] at hq; injection hq with hq; have := HI3.out.lt; omega
      have hbl4 := W4.lt
      have hFl := W4.ltF
      have W5 := fun v => W4.fr ((Fr.refl (fun _ => False) w4).alloc (.cells #[.int .i64 v] 3)) id fun _ _ => id
      have KC := fun v => Pa.byte_any (W5 v) (some ⟨w4.heap.size, 0, none⟩) 1 [v] (one_rd w4 _ _) (fun e => by have e' : w4.heap.size = b := by { injection e }; omega) (fun q h e => by have e' : w4.heap.size = q := by { injection e }; have := hFl q h; omega) (by simp) (.inl (show (9 : Int) ≤ 140737488355328 by decide))
      have KC1 := KC 0
      rw [HM.out] at KC1
      have HF5 := Lib.hid f4
      have HI5 := Lib.hid i4
      have HFw := Lib.hid hFw
      have HFo := Lib.hid hFo
      clear f4 i4 W4 W5 M4 KB HF3 HI3 KC hFw hFo hFl
      go_wp2_with fail
      refine KC1.mono ?_
      rintro e w6 ⟨rfl, F6, W6, M6⟩
      have f6 := (HF5.out.alloc _).trans M6.1 fun j hj h => by
        rcases h with rfl | h
        · omega
        · have := HFw.out j h; omega
      have i6 := (HI5.out.alloc _).fr M6.1 fun h => by
        rcases h with h | h
        · exact hbo h
        · exact HFo.out ob h rfl
      have k2 : w6.cell? ⟨ob, 0, none⟩ = some (.string st) := i6.cell 0
      have f7 := f6.alloc (.cells #[.string st] 9)
      have W7 := W6.fr ((Fr.refl (fun _ => False) w6).alloc (.cells #[.string st] 9)) id fun _ _ => id
      have KF := framed_any W7 rfl (A := some ⟨w6.heap.size, 0, none⟩) (c := 1) (xs := [st]) (one_rd w6 _ _) (by simp) (by simp) HL.out
      rw [HB.out, ← HY.out] at KF
      have HF7 := Lib.hid f7
      clear f6 f7 W6 W7 M6 KC1 HF5 HI5 i6
      go_wp2_with fail
      refine KF.mono ?_
      rintro e w8 ⟨rfl, F8⟩
      have HF8 := Lib.hid (HF7.out.trans F8 fun _ _ h => h)
      clear F8 KF
      go_wp2_with fail
      go_ret
      exact ⟨rfl, HF8.out⟩
  exact (key kn rfl).mono fun e w' ⟨he, hw⟩ => ⟨by rw [he, HY.out], hw⟩
end Go.Proofs.YtdoljggaoidljaaGreat

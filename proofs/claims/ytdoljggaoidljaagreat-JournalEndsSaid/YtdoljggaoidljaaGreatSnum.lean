/- The contracts of number and value: a number in two bytes, in four; and back. -/
import Derived.Test.YtdoljggaoidljaaGreatSfeed
import Derived.Laws.Bits64
import Derived.Laws.BitsAllLaws
namespace Go.Proofs.YtdoljggaoidljaaGreat.Se
open Go.RowKit Crc

theorem mk2 (w : World) : (Instr.makeSlice 66 (.int .i64 2) (.int .i64 2)).run Tryz.prog w = .ok (.slice (some ⟨w.heap.size, 0, none⟩) 2 2) (w.alloc (.cells #[.int .u8 0, .int .u8 0] 5)) := by kernel_rfl
theorem mk4 (w : World) : (Instr.makeSlice 66 (.int .i64 4) (.int .i64 4)).run Tryz.prog w = .ok (.slice (some ⟨w.heap.size, 0, none⟩) 4 4) (w.alloc (.cells #[.int .u8 0, .int .u8 0, .int .u8 0, .int .u8 0] 5)) := by kernel_rfl
/-- a byte of a number, as a cell -/
theorem B_of (n : Nat) (m : Int) (h : m = ((n % 256 : Nat) : Int)) : B (UInt8.ofNat n) = .int .u8 m := by
  unfold B
  rw [h, UInt8.toNat_ofNat']
/-- the text of a row that was just laid -/
theorem text_laid (w : World) (bs : List UInt8) (n : Nat) (hn : bs.length = n) (cs : Array Value) (hcs : cs = (bs.map B).toArray) :
    (convert 66 9 (.slice (some ⟨w.heap.size, 0, none⟩) n n)).run Tryz.prog (w.alloc (.cells cs 5)) = .ok (.string ⟨bs.toArray⟩) (w.alloc (.cells cs 5)) := by
  subst hn
  subst hcs
  refine run_convert_bytes_back _ _ _ _ ⟨w.heap.size, 0, none⟩ bs.length bs Tryz.underlying66 Tryz.underlying5 Tryz.underlying9 fun j hj => ?_
  have e1 : (⟨w.heap.size, 0, none⟩ : Addr).add j = ⟨w.heap.size, j, none⟩ := by unfold Addr.add; split <;> simp_all
  rw [e1, World.cell?_alloc_at _ _ _ _ rfl]
  simp [B, hj]
theorem hdr_cells (n : Nat) (h : n < 65536) : (#[.int .u8 ((n : Int) / 256), .int .u8 ((n : Int) % 256)] : Array Value) = ((hdr n).map B).toArray := by
  simp only [hdr, List.map]
  rw [B_of (n / 256) ((n : Int) / 256) (by omega), B_of n ((n : Int) % 256) (by omega)]
theorem four_cells (v : BitVec 32) : (#[.int .u8 ((v.toNat : Int) / 16777216), .int .u8 ((v.toNat : Int) / 65536 % 256), .int .u8 ((v.toNat : Int) / 256 % 256), .int .u8 ((v.toNat : Int) % 256)] : Array Value) = ((four v).map B).toArray := by
  have hv := v.isLt
  simp only [four, List.map]
  rw [B_of (v.toNat / 16777216) ((v.toNat : Int) / 16777216) (by omega), B_of (v.toNat / 65536) ((v.toNat : Int) / 65536 % 256) (by omega), B_of (v.toNat / 256) ((v.toNat : Int) / 256 % 256) (by omega), B_of v.toNat ((v.toNat : Int) % 256) (by omega)]
theorem number2 (n : Nat) (hn : n < 65536) (w : World) :
    Calls Tryz.prog 93 #[.int .i64 2, .int .i64 (n : Int)] w fun e w' => e = .returned (.string ⟨(hdr n).toArray⟩) ∧ Fr (fun _ => False) w w' := by
  have k1 := mk2
  have hcv := text_laid w (hdr n) 2 rfl _ (hdr_cells n hn)
  have hfr := (Fr.refl (fun _ => False) w).alloc (.cells #[.int .u8 ((n : Int) / 256), .int .u8 ((n : Int) % 256)] 5)
  go_enter Tryz.func93, Tryz.ntmps93
  go_wp2
  refine wp_loop_rounds 3 ?_
  iterate 3 (rw [rounds_succ]; go_wp2)
  go_ret
  exact ⟨rfl, hfr⟩
theorem number4 (v : BitVec 32) (w : World) :
    Calls Tryz.prog 93 #[.int .i64 4, .int .i64 (v.toNat : Int)] w fun e w' => e = .returned (.string ⟨(four v).toArray⟩) ∧ Fr (fun _ => False) w w' := by
  have k1 := mk4
  have hv := v.isLt
  have hcv := text_laid w (four v) 4 rfl _ (four_cells v)
  have hfr := (Fr.refl (fun _ => False) w).alloc (.cells #[.int .u8 ((v.toNat : Int) / 16777216), .int .u8 ((v.toNat : Int) / 65536 % 256), .int .u8 ((v.toNat : Int) / 256 % 256), .int .u8 ((v.toNat : Int) % 256)] 5)
  go_enter Tryz.func93, Tryz.ntmps93
  go_wp2
  refine wp_loop_rounds 5 ?_
  iterate 5 (rw [rounds_succ]; go_wp2)
  go_ret
  exact ⟨rfl, hfr⟩

/-- the number that bytes tell, the greatest first -/
def val (l : List UInt8) : Nat := l.foldl (fun n b => n * 256 + b.toNat) 0
theorem val_snoc (l : List UInt8) (b : UInt8) : val (l ++ [b]) = val l * 256 + b.toNat := by simp [val, List.foldl_append]
theorem val_take_bd (l : List UInt8) (k : Nat) (hk : k ≤ l.length) : val (l.take k) < 256 ^ k := by
  induction k with
  | zero => simp [val]
  | succ k ih =>
    have h := ih (by omega)
    have hb : (l[k]'(by omega)).toNat < 256 := UInt8.toNat_lt _
    rw [List.take_succ_eq_append_getElem (by omega), val_snoc, Nat.pow_succ]
    omega
theorem or_join (a : Int) (b : UInt8) (h0 : 0 ≤ a) (h1 : a < 16777216) : Go.bits .or .i64 (a * 256) (b.toNat : Int) = a * 256 + (b.toNat : Int) := by
  have hb : b.toNat < 256 := UInt8.toNat_lt b
  exact bits_join .i64 62 (by decide) (fun n h h' => by rw [IntKind.wrap_i64]; omega) 8 _ _ (by omega) (by omega) (by omega) (by omega) (by omega) (by omega)
theorem value_any (s : ByteArray) (hs : s.size ≤ 4) (w : World) :
    Calls Tryz.prog 98 #[.string s] w fun e w' => e = .returned (.int .i64 (val (bytesOf s) : Nat)) ∧ w = w' := by
  go_enter Tryz.func98, Tryz.ntmps98
  go_wp2
  go_loop [3, 7] (fun v i => ∃ k, k ≤ s.size ∧ i = .int .i64 (k : Nat) ∧ v = .int .i64 (val ((bytesOf s).take k) : Nat)) (fun _ i => s.size - (intOf i).toNat)
  case atStart => exact ⟨0, Nat.zero_le _, rfl, rfl⟩
  case round =>
    obtain ⟨k, hk, rfl, rfl⟩ := hrel
    by_cases hlt : k < s.size
    · have hlt' : k < (bytesOf s).length := bytes_at hlt
      have hvb := val_take_bd (bytesOf s) k (by omega)
      have hv1 : val ((bytesOf s).take k) < 16777216 := by
        have hk3 : k = 0 ∨ k = 1 ∨ k = 2 ∨ k = 3 := by omega
        rcases hk3 with rfl | rfl | rfl | rfl <;> omega
      have hsn : val ((bytesOf s).take (k + 1)) = val ((bytesOf s).take k) * 256 + s[k].toNat := by
        rw [List.take_succ_eq_append_getElem hlt', val_snoc]
        rfl
      have hor := or_join (val ((bytesOf s).take k) : Nat) s[k] (by omega) (by omega)
      have HS := Lib.hid hsn
      have hby := UInt8.toNat_lt s[k]
      have HO := Lib.hid hor
      clear hsn hvb hor
      go_wp2
      go_round
      case rel => exact ⟨k + 1, by omega, by go_num, congrArg (Value.int .i64) (HO.out.trans (by rw [HS.out]; omega))⟩
      case measure => simp [intOf]; omega
    · have hk' : k = s.size := by omega
      rw [List.take_of_length_le (by rw [bytesOf_length]; omega)]
      clear hk'
      go_wp2
      go_ret
      exact ⟨rfl, rfl⟩
theorem val_two (t : List UInt8) (h : 2 ≤ t.length) : val (t.take 2) = told t := by
  match t, h with
  | a :: b :: l, _ => simp [val, told]
theorem val_four (v : BitVec 32) : val (four v) = v.toNat := by
  have hv := v.isLt
  simp only [val, four, List.foldl, UInt8.toNat_ofNat']
  omega
theorem val_four_iff {l : List UInt8} (v : BitVec 32) (hl : l.length = 4) : v.toNat = val l ↔ l = four v := by
  constructor
  · intro h
    match l, hl with
    | [a, b, c, d], _ =>
      have ha := UInt8.toNat_lt a
      have hb := UInt8.toNat_lt b
      have hc := UInt8.toNat_lt c
      have hd := UInt8.toNat_lt d
      simp only [val, List.foldl] at h
      simp only [four, h]
      have e : ∀ (x : UInt8) (n : Nat), n % 256 = x.toNat → x = UInt8.ofNat n := fun x n hn => by
        apply UInt8.toNat_inj.1
        rw [UInt8.toNat_ofNat', hn]
      congr 1
      · exact e _ _ (by omega)
      · congr 1
        · exact e _ _ (by omega)
        · congr 1
          · exact e _ _ (by omega)
          · congr 1
            exact e _ _ (by omega)
  · rintro rfl
    exact (val_four v).symm
end Go.Proofs.YtdoljggaoidljaaGreat.Se

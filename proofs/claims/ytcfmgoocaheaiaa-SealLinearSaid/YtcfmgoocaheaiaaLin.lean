/- The walk of SealLinear: of texts of one length the sums of two and of their exclusive or differ by the sum of as many noughts. -/
import Derived.Test.YtcfmgoocaheaiaaCut
import Derived.Test.YtcfmgoocaheaiaaSlots
import Derived.BigRegion
namespace Go.Proofs.Ytcfmgoocaheaiaa
open Go.RowKit Crc

/-- make, of so many bytes -/
theorem mk_bytes (n : Nat) (hn : n ≤ 140737488355328) (W : World) : (Instr.makeSlice 24 (.int .i64 (n : Int)) (.int .i64 (n : Int))).run Try.prog W = .ok (.slice (some ⟨W.heap.size, 0, none⟩) n n) (W.alloc (.cells (List.replicate n (Value.int .u8 0)).toArray 5)) := by
  obtain ⟨i0, hi, hz0, hz1, hz2⟩ := info_parts Try.infoB
  have h := run_make (P := Try.prog) W 24 5 i0 (.int .u8 0) Try.underlying24 hi hz0 .i64 .i64 n n (by omega) (by omega) (by rw [hz2]; omega) (by omega)
  have e : madeCells (Value.int .u8 0).cells n = (List.replicate n (Value.int .u8 0)).toArray := by
    apply Array.ext'
    rw [← toList_madeCells_one]
    rfl
  simpa [hz1, e] using h
theorem u8_xor (a b : UInt8) : Go.bits .xor .u8 (a.toNat : Int) (b.toNat : Int) = ((a ^^^ b).toNat : Int) := by
  have ha := UInt8.toNat_lt a
  have hb := UInt8.toNat_lt b
  have hx := UInt8.toNat_lt (a ^^^ b)
  show IntKind.u8.wrap ((BitVec.ofInt 8 (a.toNat : Int) ^^^ BitVec.ofInt 8 (b.toNat : Int)).toNat : Int) = _
  rw [UInt8.toNat_xor] at *
  rw [BitVec.toNat_xor, BitVec.ofInt_natCast, BitVec.ofInt_natCast, BitVec.toNat_ofNat, BitVec.toNat_ofNat, Nat.mod_eq_of_lt (by omega), Nat.mod_eq_of_lt (by omega), IntKind.wrap_u8]
  omega

def zrow (n : Nat) : Array Value := (List.replicate n (Value.int .u8 0)).toArray
def xrow (n k : Nat) (x y : List UInt8) : Array Value := ((xors (x.take k) (y.take k)).map B ++ List.replicate (n - k) (Value.int .u8 0)).toArray
theorem zrow_start (n : Nat) (x y : List UInt8) : zrow n = xrow n 0 x y := rfl
theorem xrow_len {k : Nat} {x y : List UInt8} (hx : k ≤ x.length) (hy : k ≤ y.length) : (xors (x.take k) (y.take k)).length = k := by
  unfold xors
  rw [List.length_zipWith, List.length_take, List.length_take]
  omega
theorem xrow_at {n k : Nat} {x y : List UInt8} (hk : k < n) (hx : n ≤ x.length) (hy : n ≤ y.length) : (xrow n k x y)[k]? = some (.int .u8 0) := by
  have hl := xrow_len (k := k) (x := x) (y := y) (by omega) (by omega)
  unfold xrow
  rw [List.getElem?_toArray, List.getElem?_append_right (by rw [List.length_map, hl]; exact Nat.le_refl _), List.length_map, hl, Nat.sub_self, List.getElem?_replicate, if_pos (by omega)]
theorem xrow_next {n k : Nat} {x y : List UInt8} (hk : k < n) (hx : n ≤ x.length) (hy : n ≤ y.length) : (xrow n k x y).setIfInBounds k (B (x[k] ^^^ y[k])) = xrow n (k + 1) x y := by
  have hl := xrow_len (k := k) (x := x) (y := y) (by omega) (by omega)
  unfold xrow
  apply Array.ext'
  rw [List.setIfInBounds_toArray]
  show List.set _ _ _ = _ ++ _
  rw [List.set_append, if_neg (by rw [List.length_map, hl]; omega), List.length_map, hl, Nat.sub_self, show n - k = (n - (k + 1)) + 1 from by omega, List.replicate_succ, List.set_cons_zero]
  have e : xors (x.take (k + 1)) (y.take (k + 1)) = xors (x.take k) (y.take k) ++ [x[k] ^^^ y[k]] := by
    unfold xors
    rw [List.take_succ_eq_append_getElem (by omega), List.take_succ_eq_append_getElem (by omega), List.zipWith_append (by simp; omega)]
    rfl
  rw [e, List.map_append, List.append_assoc]
  rfl
theorem enters_sum (args : Array Value) (w : World) : (callFunc 13 args).run Try.prog w = .ok (.enter 13 args) w := by
  have h := Try.func13
  go_simp
theorem lit1_run (s : ByteArray) (w : World) : (Instr.buildSlice 22 1 #[(0, .string s)]).run Try.prog w = .ok (.slice (some ⟨w.heap.size, 0, none⟩) 1 1) (w.alloc (.cells #[.string s] 9)) := by
  go_simp
theorem xor_guard (w : World) (p q : Operand) (x y : Int) : (eqGuard .xor 3 p q (.int .i64 x) (.int .i64 y)).run Try.prog w = .ok () w := by
  go_simp
theorem eql_guard (w : World) (p q : Nat) (x y : Int) : (eqGuard .eql 3 (.tmp p) (.tmp q) (.int .i64 x) (.int .i64 y)).run Try.prog w = .ok () w := by
  go_simp
theorem xor_run (w : World) (x y : Int) : (binOp .xor 3 (.int .i64 x) (.int .i64 y)).run Try.prog w = .ok (.int .i64 (Go.bits .xor .i64 x y)) w := by
  go_simp
theorem eql_run (w : World) (x y : Int) (h : x = y) : (binOp .eql 3 (.int .i64 x) (.int .i64 y)).run Try.prog w = .ok (.bool true) w := by
  subst h
  go_simp
theorem sum_lit (s : ByteArray) (hs : s.size ≤ 9223372036854775807) {W : World} {b : Nat} (h : Is W b 9 #[.string s]) :
    Calls Try.prog 13 #[.slice (some ⟨b, 0, none⟩) 1 1] W fun e w' => e = .returned (.int .i64 ((sum (bytesOf s)).toNat : Int)) ∧ W = w' := by
  have K := sum_any (c := 1) (xs := [s]) (rd_is h) (by simp) (by simpa using hs)
  rw [jn_one] at K
  exact K
theorem text_is {w : World} {b : Nat} {bs : List UInt8} {n : Nat} {cs : Array Value} (hn : bs.length = n) (hc : cs = (bs.map B).toArray) (h : Is w b 5 cs) :
    (convert 24 9 (.slice (some ⟨b, 0, none⟩) n n)).run Try.prog w = .ok (.string ⟨bs.toArray⟩) w := by
  subst hn
  subst hc
  refine run_convert_bytes_back _ _ _ _ ⟨b, 0, none⟩ bs.length bs Try.underlying24 Try.underlying5 Try.underlying9 fun j hj => ?_
  have e1 : (⟨b, 0, none⟩ : Addr).add j = ⟨b, j, none⟩ := by unfold Addr.add; split <;> simp_all
  rw [e1, h.cell]
  simp [B, hj]
theorem xrow_end {n : Nat} (x y : List UInt8) : xrow n n x y = ((xors (x.take n) (y.take n)).map B).toArray := by
  unfold xrow
  rw [Nat.sub_self, List.replicate_zero, List.append_nil]
theorem zrow_bytes (n : Nat) : zrow n = ((List.replicate n (0 : UInt8)).map B).toArray := by
  unfold zrow
  rw [List.map_replicate]
  rfl
/-- the four sums -/
theorem lin_sums (x y : List UInt8) (h : x.length = y.length) : Go.bits .xor .i64 ((sum x).toNat : Int) ((sum y).toNat : Int) = Go.bits .xor .i64 ((sum (xors x y)).toNat : Int) ((sum (List.replicate x.length 0)).toNat : Int) := by
  have e : ∀ u v : BitVec 32, Go.bits .xor .i64 (u.toNat : Int) (v.toNat : Int) = ((u ^^^ v).toNat : Int) := fun u v => by
    have hu := u.isLt
    have hv := v.isLt
    rw [i64_xor _ _ (by omega) (by omega), BitVec.toNat_xor]
  rw [e, e, sum_linear x y h]

set_option maxRecDepth 100000 in
set_option maxHeartbeats 1600000 in
theorem lin_walk (a b : ByteArray) (ha : a.size ≤ 140737488351232) (hb : b.size ≤ 140737488351232) (w : World) :
    Calls Try.prog 9 #[.string a, .string b] w fun e w' => e = .returned (.bool true) ∧ Below w.heap.size w w' := by
  have KL := lives_any w
  obtain ⟨n, hn⟩ : ∃ n : Nat, n = min a.size b.size := ⟨_, rfl⟩
  have hm := mk_bytes n (by omega)
  have e1 : min (a.size : Int) (b.size : Int) = (n : Int) := by omega
  have e2 : ((min a.size b.size : Nat) : Int) = (n : Int) := by omega
  have na : n ≤ a.size := by omega
  have ka : n ≤ (bytesOf a).length := by rw [bytesOf_length]; omega
  have kb : n ≤ (bytesOf b).length := by rw [bytesOf_length]; omega
  have nb : n ≤ b.size := by omega
  have H1 := Lib.hid e1
  have H2 := Lib.hid e2
  clear e1 e2 hn
  go_enter Try.func9, Try.ntmps9
  go_wp2_with (go_at_call 10; refine KL.mono ?_; clear KL; rintro e w1 ⟨rfl, hf1⟩)
  first | rw [H1.out] | rw [H2.out]
  clear H1 H2
  go_region
  all_goals go_wp2_with fail
  all_goals
    have i1 : Is ((w1.alloc (.cells (Array.replicate n (Value.int .u8 0)) 5)).alloc (.cells (Array.replicate n (Value.int .u8 0)) 5)).drew w1.heap.size 5 (zrow n) := (Is.new _ _ _).alloc _
    have i2 : Is ((w1.alloc (.cells (Array.replicate n (Value.int .u8 0)) 5)).alloc (.cells (Array.replicate n (Value.int .u8 0)) 5)).drew (w1.heap.size + 1) 5 (zrow n) := is_two _ _ _ _
    have f2 := ((hf1.alloc (.cells (Array.replicate n (Value.int .u8 0)) 5)).alloc (.cells (Array.replicate n (Value.int .u8 0)) 5)).drew
    have hle := hf1.size
    generalize ((w1.alloc (.cells (Array.replicate n (Value.int .u8 0)) 5)).alloc (.cells (Array.replicate n (Value.int .u8 0)) 5)).drew = W at *
    have hpq : w1.heap.size ≠ w1.heap.size + 1 := by omega
    have hle2 : w.heap.size ≤ w1.heap.size + 1 := by omega
    clear hf1 hm
  · generalize w1.heap.size + 1 = p at *
    generalize w1.heap.size = q at *
    have ix := i1
    have iz := i2
    have hbx : w.heap.size ≤ q := hle
    have hxz : q ≠ p := hpq
    clear i1 i2 hpq hle hle2
    rw [zrow_start n (bytesOf a) (bytesOf b)] at ix
    go_loopw [8] (fun i wr => ∃ k, k ≤ n ∧ i = .int .i64 (k : Nat) ∧ Fr (fun _ => False) w wr ∧ Is wr q 5 (xrow n k (bytesOf a) (bytesOf b)) ∧ Is wr p 5 (zrow n)) (fun i _ => n - (intOf i).toNat)
    case atStart => exact ⟨0, Nat.zero_le _, rfl, f2, ix, iz⟩
    case round =>
      obtain ⟨k, hk, rfl, g1, jx, jz⟩ := hrel
      clear ix iz f2
      by_cases hlt : k < n
      · have c1 : wr.cell? ⟨q, k, none⟩ = some (.int .u8 0) := (jx.cell k).trans (xrow_at hlt ka kb)
        have c2 : wr.frozen? ⟨q, k, none⟩ = false := jx.frozen k
        have la : k < a.size := by omega
        have lb : k < b.size := by omega
        have hx := u8_xor a[k] b[k]
        have hB : Value.int .u8 (Go.bits .xor .u8 (a[k].toNat : Int) (b[k].toNat : Int)) = B (a[k] ^^^ b[k]) := by rw [hx]; rfl
        have HB := Lib.hid hB
        clear hx hB
        go_wp2_with fail
        go_region
        go_wp2
        go_roundw
        case rel => exact ⟨k + 1, by omega, by go_num, (g1.setCell (p := ⟨q, k, none⟩) (.inr hbx) _).drew, by rw [HB.out, ← xrow_next hlt ka kb]; exact jx.set k _, jz.far hxz.symm _⟩
        case measure => simp [intOf]; omega
      · have hk' : k = n := by omega
        subst hk'
        go_wp2_with fail
        clear W
        have ht1 : (bytesOf (a.extract 0 k)) = (bytesOf a).take k := by rw [bytesOf_extract, List.drop_zero]
        have ht2 : (bytesOf (b.extract 0 k)) = (bytesOf b).take k := by rw [bytesOf_extract, List.drop_zero]
        have hl1 : ((bytesOf a).take k).length = k := by rw [List.length_take]; omega
        have hl2 : ((bytesOf b).take k).length = k := by rw [List.length_take]; omega
        have hS := lin_sums ((bytesOf a).take k) ((bytesOf b).take k) (by rw [hl1, hl2])
        rw [hl1, ← ht1, ← ht2] at hS
        have cX := fun (w' : World) (f : Fr (fun _ => False) wr.drew w') => text_is (n := k) (xrow_len ka kb) (xrow_end (bytesOf a) (bytesOf b)) ((show Is wr.drew _ _ _ from jx).fr f id)
        have cZ := fun (w' : World) (f : Fr (fun _ => False) wr.drew w') => text_is (bs := List.replicate k 0) (n := k) (List.length_replicate) (zrow_bytes k) ((show Is wr.drew _ _ _ from jz).fr f id)
        rw [← ht1, ← ht2] at cX
        have kA := fun {W : World} {b' : Nat} => sum_lit (W := W) (b := b') (a.extract 0 k) (by rw [ByteArray.size_extract]; omega)
        have kB := fun {W : World} {b' : Nat} => sum_lit (W := W) (b := b') (b.extract 0 k) (by rw [ByteArray.size_extract]; omega)
        have kX := fun {W : World} {b' : Nat} => sum_lit (W := W) (b := b') ⟨(xors (bytesOf (a.extract 0 k)) (bytesOf (b.extract 0 k))).toArray⟩ (by rw [size_of, bytesOf_mk (xors _ _), ht1, ht2, xrow_len ka kb]; omega)
        have kZ := fun {W : World} {b' : Nat} => sum_lit (W := W) (b := b') ⟨(List.replicate k (0 : UInt8)).toArray⟩ (by rw [size_of, bytesOf_mk (List.replicate k 0), List.length_replicate]; omega)
        rw [bytesOf_mk (xors _ _)] at kX
        rw [bytesOf_mk (List.replicate k 0)] at kZ
        generalize (⟨(xors (bytesOf (a.extract 0 k)) (bytesOf (b.extract 0 k))).toArray⟩ : ByteArray) = XT at *
        generalize (⟨(List.replicate k (0 : UInt8)).toArray⟩ : ByteArray) = ZT at *
        generalize ((sum (bytesOf (a.extract 0 k))).toNat : Int) = VA at *
        generalize ((sum (bytesOf (b.extract 0 k))).toNat : Int) = VB at *
        generalize ((sum (xors (bytesOf (a.extract 0 k)) (bytesOf (b.extract 0 k)))).toNat : Int) = VX at *
        generalize ((sum (List.replicate k 0)).toNat : Int) = VZ at *
        have hr : Fr (fun _ => False) w wr := g1
        refine region_slots [(0, .val (.string a)), (1, .val (.string b)), (5, .val (.int .i64 (k : Nat))), (6, .val (.slice (some ⟨q, 0, none⟩) k k)), (7, .val (.slice (some ⟨p, 0, none⟩) k k)),
          (35, .val (.string a)), (36, .val (.int .i64 (k : Nat))), (37, .val (.string (a.extract 0 k))), (38, .lit 9 [.string (a.extract 0 k)]), (39, .val (.int .i64 VA)),
          (40, .val (.string b)), (41, .val (.int .i64 (k : Nat))), (42, .val (.string (b.extract 0 k))), (43, .lit 9 [.string (b.extract 0 k)]), (44, .val (.int .i64 VB)), (45, .val (.int .i64 (Go.bits .xor .i64 VA VB))),
          (46, .val (.slice (some ⟨q, 0, none⟩) k k)), (47, .val (.string XT)), (48, .lit 9 [.string XT]), (49, .val (.int .i64 VX)),
          (50, .val (.slice (some ⟨p, 0, none⟩) k k)), (51, .val (.string ZT)), (52, .lit 9 [.string ZT]), (53, .val (.int .i64 VZ)), (54, .val (.int .i64 (Go.bits .xor .i64 VX VZ))), (55, .val (.bool true)), (4, .val (.bool true))]
          (by kernel_rfl) (by kernel_rfl) ?_ ?_ ?_
        · intro x hx hxo
          simp only [List.mem_cons, List.not_mem_nil, or_false] at hx
          rcases hx with rfl | rfl | rfl | rfl | rfl | hx
          · rfl
          · rfl
          · rfl
          · rfl
          · rfl
          · exfalso
            revert hxo
            rcases hx with rfl | rfl | rfl | rfl | rfl | rfl | rfl | rfl | rfl | rfl | rfl | rfl | rfl | rfl | rfl | rfl | rfl | rfl | rfl | rfl | rfl | rfl <;> exact fun h => by cases h
        · intro o ho
          simp only [List.mem_cons, List.not_mem_nil, or_false] at ho
          rcases ho with rfl | rfl | rfl | rfl | rfl | rfl | rfl | rfl | rfl | rfl | rfl | rfl | rfl | rfl | rfl | rfl | rfl | rfl | rfl | rfl | rfl | rfl <;> intro a' w' hf hl
          · exact g_move (putk (Fr.refl _ _) (hl 0 (by decide)))
          · exact g_move (putk (Fr.refl _ _) (hl 5 (by decide)))
          · have e1 : a'.eval (.tmp 35) = .string a := hl 35 (by decide)
            have e2 : a'.eval (.tmp 36) = .int .i64 (k : Nat) := hl 36 (by decide)
            exact g_head Try.underlying9 e1 e2 (piece_head a k na w') (putk (Fr.refl _ _) rfl)
          · have e1 : a'.eval (.tmp 37) = .string (a.extract 0 k) := hl 37 (by decide)
            exact g_lit1 e1 (lit1_run _ w') (putk ((Fr.refl _ _).alloc _) ⟨_, rfl, Is.new _ _ _⟩)
          · obtain ⟨b', e1, hb'⟩ : ∃ b' : Nat, a'.eval (.tmp 38) = .slice (some ⟨b', 0, none⟩) 1 1 ∧ Is w' b' 9 #[.string (a.extract 0 k)] := hl 38 (by decide)
            exact g_call enters_sum e1 ((kA hb').mono fun e w'' ⟨he, hw⟩ => ⟨_, he, hw ▸ putk (Fr.refl _ _) rfl⟩)
          · exact g_move (putk (Fr.refl _ _) (hl 1 (by decide)))
          · exact g_move (putk (Fr.refl _ _) (hl 5 (by decide)))
          · have e1 : a'.eval (.tmp 40) = .string b := hl 40 (by decide)
            have e2 : a'.eval (.tmp 41) = .int .i64 (k : Nat) := hl 41 (by decide)
            exact g_head Try.underlying9 e1 e2 (piece_head b k nb w') (putk (Fr.refl _ _) rfl)
          · have e1 : a'.eval (.tmp 42) = .string (b.extract 0 k) := hl 42 (by decide)
            exact g_lit1 e1 (lit1_run _ w') (putk ((Fr.refl _ _).alloc _) ⟨_, rfl, Is.new _ _ _⟩)
          · obtain ⟨b', e1, hb'⟩ : ∃ b' : Nat, a'.eval (.tmp 43) = .slice (some ⟨b', 0, none⟩) 1 1 ∧ Is w' b' 9 #[.string (b.extract 0 k)] := hl 43 (by decide)
            exact g_call enters_sum e1 ((kB hb').mono fun e w'' ⟨he, hw⟩ => ⟨_, he, hw ▸ putk (Fr.refl _ _) rfl⟩)
          · have e1 : a'.eval (.tmp 39) = .int .i64 VA := hl 39 (by decide)
            have e2 : a'.eval (.tmp 44) = .int .i64 VB := hl 44 (by decide)
            exact g_bin e1 e2 (xor_guard w' _ _ _ _) (xor_run w' _ _) (putk (Fr.refl _ _) rfl)
          · exact g_move (putk (Fr.refl _ _) (hl 6 (by decide)))
          · have e1 : a'.eval (.tmp 46) = .slice (some ⟨q, 0, none⟩) k k := hl 46 (by decide)
            exact g_conv e1 (cX w' hf) (putk (Fr.refl _ _) rfl)
          · have e1 : a'.eval (.tmp 47) = .string XT := hl 47 (by decide)
            exact g_lit1 e1 (lit1_run _ w') (putk ((Fr.refl _ _).alloc _) ⟨_, rfl, Is.new _ _ _⟩)
          · obtain ⟨b', e1, hb'⟩ : ∃ b' : Nat, a'.eval (.tmp 48) = .slice (some ⟨b', 0, none⟩) 1 1 ∧ Is w' b' 9 #[.string XT] := hl 48 (by decide)
            exact g_call enters_sum e1 ((kX hb').mono fun e w'' ⟨he, hw⟩ => ⟨_, he, hw ▸ putk (Fr.refl _ _) rfl⟩)
          · exact g_move (putk (Fr.refl _ _) (hl 7 (by decide)))
          · have e1 : a'.eval (.tmp 50) = .slice (some ⟨p, 0, none⟩) k k := hl 50 (by decide)
            exact g_conv e1 (cZ w' hf) (putk (Fr.refl _ _) rfl)
          · have e1 : a'.eval (.tmp 51) = .string ZT := hl 51 (by decide)
            exact g_lit1 e1 (lit1_run _ w') (putk ((Fr.refl _ _).alloc _) ⟨_, rfl, Is.new _ _ _⟩)
          · obtain ⟨b', e1, hb'⟩ : ∃ b' : Nat, a'.eval (.tmp 52) = .slice (some ⟨b', 0, none⟩) 1 1 ∧ Is w' b' 9 #[.string ZT] := hl 52 (by decide)
            exact g_call enters_sum e1 ((kZ hb').mono fun e w'' ⟨he, hw⟩ => ⟨_, he, hw ▸ putk (Fr.refl _ _) rfl⟩)
          · have e1 : a'.eval (.tmp 49) = .int .i64 VX := hl 49 (by decide)
            have e2 : a'.eval (.tmp 53) = .int .i64 VZ := hl 53 (by decide)
            exact g_bin e1 e2 (xor_guard w' _ _ _ _) (xor_run w' _ _) (putk (Fr.refl _ _) rfl)
          · have e1 : a'.eval (.tmp 45) = .int .i64 (Go.bits .xor .i64 VA VB) := hl 45 (by decide)
            have e2 : a'.eval (.tmp 54) = .int .i64 (Go.bits .xor .i64 VX VZ) := hl 54 (by decide)
            exact g_bin e1 e2 (eql_guard w' _ _ _ _) (eql_run w' _ _ hS) (putk (Fr.refl _ _) rfl)
          · exact g_assign (putk (Fr.refl _ _) (hl 55 (by decide)))
        · intro a' w' hf hl hd hsz
          have e4 : a'.eval (.tmp 4) = .bool true := hl 4
          have hd' : a'.defers = [] := hd
          clear hd hsz hl
          obtain ⟨tm, df⟩ := a'
          simp only at hd'
          subst hd'
          go_wp2
          refine bodyPost_ret (results_tmp rfl _ _ _) rfl ?_
          exact ⟨congrArg Ending.returned e4, (hr.drew.trans hf (fun _ _ h => h)).toBelow0⟩
  · generalize w1.heap.size + 1 = p at *
    generalize w1.heap.size = q at *
    have ix := i2
    have iz := i1
    have hbx : w.heap.size ≤ p := hle2
    have hxz : p ≠ q := hpq.symm
    clear i1 i2 hpq hle hle2
    rw [zrow_start n (bytesOf a) (bytesOf b)] at ix
    go_loopw [8] (fun i wr => ∃ k, k ≤ n ∧ i = .int .i64 (k : Nat) ∧ Fr (fun _ => False) w wr ∧ Is wr p 5 (xrow n k (bytesOf a) (bytesOf b)) ∧ Is wr q 5 (zrow n)) (fun i _ => n - (intOf i).toNat)
    case atStart => exact ⟨0, Nat.zero_le _, rfl, f2, ix, iz⟩
    case round =>
      obtain ⟨k, hk, rfl, g1, jx, jz⟩ := hrel
      clear ix iz f2
      by_cases hlt : k < n
      · have c1 : wr.cell? ⟨p, k, none⟩ = some (.int .u8 0) := (jx.cell k).trans (xrow_at hlt ka kb)
        have c2 : wr.frozen? ⟨p, k, none⟩ = false := jx.frozen k
        have la : k < a.size := by omega
        have lb : k < b.size := by omega
        have hx := u8_xor a[k] b[k]
        have hB : Value.int .u8 (Go.bits .xor .u8 (a[k].toNat : Int) (b[k].toNat : Int)) = B (a[k] ^^^ b[k]) := by rw [hx]; rfl
        have HB := Lib.hid hB
        clear hx hB
        go_wp2_with fail
        go_region
        go_wp2
        go_roundw
        case rel => exact ⟨k + 1, by omega, by go_num, (g1.setCell (p := ⟨p, k, none⟩) (.inr hbx) _).drew, by rw [HB.out, ← xrow_next hlt ka kb]; exact jx.set k _, jz.far hxz.symm _⟩
        case measure => simp [intOf]; omega
      · have hk' : k = n := by omega
        subst hk'
        go_wp2_with fail
        clear W
        have ht1 : (bytesOf (a.extract 0 k)) = (bytesOf a).take k := by rw [bytesOf_extract, List.drop_zero]
        have ht2 : (bytesOf (b.extract 0 k)) = (bytesOf b).take k := by rw [bytesOf_extract, List.drop_zero]
        have hl1 : ((bytesOf a).take k).length = k := by rw [List.length_take]; omega
        have hl2 : ((bytesOf b).take k).length = k := by rw [List.length_take]; omega
        have hS := lin_sums ((bytesOf a).take k) ((bytesOf b).take k) (by rw [hl1, hl2])
        rw [hl1, ← ht1, ← ht2] at hS
        have cX := fun (w' : World) (f : Fr (fun _ => False) wr.drew w') => text_is (n := k) (xrow_len ka kb) (xrow_end (bytesOf a) (bytesOf b)) ((show Is wr.drew _ _ _ from jx).fr f id)
        have cZ := fun (w' : World) (f : Fr (fun _ => False) wr.drew w') => text_is (bs := List.replicate k 0) (n := k) (List.length_replicate) (zrow_bytes k) ((show Is wr.drew _ _ _ from jz).fr f id)
        rw [← ht1, ← ht2] at cX
        have kA := fun {W : World} {b' : Nat} => sum_lit (W := W) (b := b') (a.extract 0 k) (by rw [ByteArray.size_extract]; omega)
        have kB := fun {W : World} {b' : Nat} => sum_lit (W := W) (b := b') (b.extract 0 k) (by rw [ByteArray.size_extract]; omega)
        have kX := fun {W : World} {b' : Nat} => sum_lit (W := W) (b := b') ⟨(xors (bytesOf (a.extract 0 k)) (bytesOf (b.extract 0 k))).toArray⟩ (by rw [size_of, bytesOf_mk (xors _ _), ht1, ht2, xrow_len ka kb]; omega)
        have kZ := fun {W : World} {b' : Nat} => sum_lit (W := W) (b := b') ⟨(List.replicate k (0 : UInt8)).toArray⟩ (by rw [size_of, bytesOf_mk (List.replicate k 0), List.length_replicate]; omega)
        rw [bytesOf_mk (xors _ _)] at kX
        rw [bytesOf_mk (List.replicate k 0)] at kZ
        generalize (⟨(xors (bytesOf (a.extract 0 k)) (bytesOf (b.extract 0 k))).toArray⟩ : ByteArray) = XT at *
        generalize (⟨(List.replicate k (0 : UInt8)).toArray⟩ : ByteArray) = ZT at *
        generalize ((sum (bytesOf (a.extract 0 k))).toNat : Int) = VA at *
        generalize ((sum (bytesOf (b.extract 0 k))).toNat : Int) = VB at *
        generalize ((sum (xors (bytesOf (a.extract 0 k)) (bytesOf (b.extract 0 k)))).toNat : Int) = VX at *
        generalize ((sum (List.replicate k 0)).toNat : Int) = VZ at *
        have hr : Fr (fun _ => False) w wr := g1
        refine region_slots [(0, .val (.string a)), (1, .val (.string b)), (5, .val (.int .i64 (k : Nat))), (6, .val (.slice (some ⟨p, 0, none⟩) k k)), (7, .val (.slice (some ⟨q, 0, none⟩) k k)),
          (35, .val (.string a)), (36, .val (.int .i64 (k : Nat))), (37, .val (.string (a.extract 0 k))), (38, .lit 9 [.string (a.extract 0 k)]), (39, .val (.int .i64 VA)),
          (40, .val (.string b)), (41, .val (.int .i64 (k : Nat))), (42, .val (.string (b.extract 0 k))), (43, .lit 9 [.string (b.extract 0 k)]), (44, .val (.int .i64 VB)), (45, .val (.int .i64 (Go.bits .xor .i64 VA VB))),
          (46, .val (.slice (some ⟨p, 0, none⟩) k k)), (47, .val (.string XT)), (48, .lit 9 [.string XT]), (49, .val (.int .i64 VX)),
          (50, .val (.slice (some ⟨q, 0, none⟩) k k)), (51, .val (.string ZT)), (52, .lit 9 [.string ZT]), (53, .val (.int .i64 VZ)), (54, .val (.int .i64 (Go.bits .xor .i64 VX VZ))), (55, .val (.bool true)), (4, .val (.bool true))]
          (by kernel_rfl) (by kernel_rfl) ?_ ?_ ?_
        · intro x hx hxo
          simp only [List.mem_cons, List.not_mem_nil, or_false] at hx
          rcases hx with rfl | rfl | rfl | rfl | rfl | hx
          · rfl
          · rfl
          · rfl
          · rfl
          · rfl
          · exfalso
            revert hxo
            rcases hx with rfl | rfl | rfl | rfl | rfl | rfl | rfl | rfl | rfl | rfl | rfl | rfl | rfl | rfl | rfl | rfl | rfl | rfl | rfl | rfl | rfl | rfl <;> exact fun h => by cases h
        · intro o ho
          simp only [List.mem_cons, List.not_mem_nil, or_false] at ho
          rcases ho with rfl | rfl | rfl | rfl | rfl | rfl | rfl | rfl | rfl | rfl | rfl | rfl | rfl | rfl | rfl | rfl | rfl | rfl | rfl | rfl | rfl | rfl <;> intro a' w' hf hl
          · exact g_move (putk (Fr.refl _ _) (hl 0 (by decide)))
          · exact g_move (putk (Fr.refl _ _) (hl 5 (by decide)))
          · have e1 : a'.eval (.tmp 35) = .string a := hl 35 (by decide)
            have e2 : a'.eval (.tmp 36) = .int .i64 (k : Nat) := hl 36 (by decide)
            exact g_head Try.underlying9 e1 e2 (piece_head a k na w') (putk (Fr.refl _ _) rfl)
          · have e1 : a'.eval (.tmp 37) = .string (a.extract 0 k) := hl 37 (by decide)
            exact g_lit1 e1 (lit1_run _ w') (putk ((Fr.refl _ _).alloc _) ⟨_, rfl, Is.new _ _ _⟩)
          · obtain ⟨b', e1, hb'⟩ : ∃ b' : Nat, a'.eval (.tmp 38) = .slice (some ⟨b', 0, none⟩) 1 1 ∧ Is w' b' 9 #[.string (a.extract 0 k)] := hl 38 (by decide)
            exact g_call enters_sum e1 ((kA hb').mono fun e w'' ⟨he, hw⟩ => ⟨_, he, hw ▸ putk (Fr.refl _ _) rfl⟩)
          · exact g_move (putk (Fr.refl _ _) (hl 1 (by decide)))
          · exact g_move (putk (Fr.refl _ _) (hl 5 (by decide)))
          · have e1 : a'.eval (.tmp 40) = .string b := hl 40 (by decide)
            have e2 : a'.eval (.tmp 41) = .int .i64 (k : Nat) := hl 41 (by decide)
            exact g_head Try.underlying9 e1 e2 (piece_head b k nb w') (putk (Fr.refl _ _) rfl)
          · have e1 : a'.eval (.tmp 42) = .string (b.extract 0 k) := hl 42 (by decide)
            exact g_lit1 e1 (lit1_run _ w') (putk ((Fr.refl _ _).alloc _) ⟨_, rfl, Is.new _ _ _⟩)
          · obtain ⟨b', e1, hb'⟩ : ∃ b' : Nat, a'.eval (.tmp 43) = .slice (some ⟨b', 0, none⟩) 1 1 ∧ Is w' b' 9 #[.string (b.extract 0 k)] := hl 43 (by decide)
            exact g_call enters_sum e1 ((kB hb').mono fun e w'' ⟨he, hw⟩ => ⟨_, he, hw ▸ putk (Fr.refl _ _) rfl⟩)
          · have e1 : a'.eval (.tmp 39) = .int .i64 VA := hl 39 (by decide)
            have e2 : a'.eval (.tmp 44) = .int .i64 VB := hl 44 (by decide)
            exact g_bin e1 e2 (xor_guard w' _ _ _ _) (xor_run w' _ _) (putk (Fr.refl _ _) rfl)
          · exact g_move (putk (Fr.refl _ _) (hl 6 (by decide)))
          · have e1 : a'.eval (.tmp 46) = .slice (some ⟨p, 0, none⟩) k k := hl 46 (by decide)
            exact g_conv e1 (cX w' hf) (putk (Fr.refl _ _) rfl)
          · have e1 : a'.eval (.tmp 47) = .string XT := hl 47 (by decide)
            exact g_lit1 e1 (lit1_run _ w') (putk ((Fr.refl _ _).alloc _) ⟨_, rfl, Is.new _ _ _⟩)
          · obtain ⟨b', e1, hb'⟩ : ∃ b' : Nat, a'.eval (.tmp 48) = .slice (some ⟨b', 0, none⟩) 1 1 ∧ Is w' b' 9 #[.string XT] := hl 48 (by decide)
            exact g_call enters_sum e1 ((kX hb').mono fun e w'' ⟨he, hw⟩ => ⟨_, he, hw ▸ putk (Fr.refl _ _) rfl⟩)
          · exact g_move (putk (Fr.refl _ _) (hl 7 (by decide)))
          · have e1 : a'.eval (.tmp 50) = .slice (some ⟨q, 0, none⟩) k k := hl 50 (by decide)
            exact g_conv e1 (cZ w' hf) (putk (Fr.refl _ _) rfl)
          · have e1 : a'.eval (.tmp 51) = .string ZT := hl 51 (by decide)
            exact g_lit1 e1 (lit1_run _ w') (putk ((Fr.refl _ _).alloc _) ⟨_, rfl, Is.new _ _ _⟩)
          · obtain ⟨b', e1, hb'⟩ : ∃ b' : Nat, a'.eval (.tmp 52) = .slice (some ⟨b', 0, none⟩) 1 1 ∧ Is w' b' 9 #[.string ZT] := hl 52 (by decide)
            exact g_call enters_sum e1 ((kZ hb').mono fun e w'' ⟨he, hw⟩ => ⟨_, he, hw ▸ putk (Fr.refl _ _) rfl⟩)
          · have e1 : a'.eval (.tmp 49) = .int .i64 VX := hl 49 (by decide)
            have e2 : a'.eval (.tmp 53) = .int .i64 VZ := hl 53 (by decide)
            exact g_bin e1 e2 (xor_guard w' _ _ _ _) (xor_run w' _ _) (putk (Fr.refl _ _) rfl)
          · have e1 : a'.eval (.tmp 45) = .int .i64 (Go.bits .xor .i64 VA VB) := hl 45 (by decide)
            have e2 : a'.eval (.tmp 54) = .int .i64 (Go.bits .xor .i64 VX VZ) := hl 54 (by decide)
            exact g_bin e1 e2 (eql_guard w' _ _ _ _) (eql_run w' _ _ hS) (putk (Fr.refl _ _) rfl)
          · exact g_assign (putk (Fr.refl _ _) (hl 55 (by decide)))
        · intro a' w' hf hl hd hsz
          have e4 : a'.eval (.tmp 4) = .bool true := hl 4
          have hd' : a'.defers = [] := hd
          clear hd hsz hl
          obtain ⟨tm, df⟩ := a'
          simp only at hd'
          subst hd'
          go_wp2
          refine bodyPost_ret (results_tmp rfl _ _ _) rfl ?_
          exact ⟨congrArg Ending.returned e4, (hr.drew.trans hf (fun _ _ h => h)).toBelow0⟩
end Go.Proofs.Ytcfmgoocaheaiaa

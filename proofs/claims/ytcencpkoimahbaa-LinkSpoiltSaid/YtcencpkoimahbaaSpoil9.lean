/- The walk of LinkSpoilt: a telegram of which one bit was turned is never taken. -/
import Derived.Test.YtcencpkoimahbaaLives9
import Derived.Test.YtcencpkoimahbaaBit
import Derived.BigRegion
namespace Go.Proofs.Ytcencpkoimahbaa
open Go.RowKit Li

theorem spoil_tel (p : Nat) (hp : p < 256) (x : ByteArray) : makeL p 1 5 (bytesOf x) = if 1000 < (bytesOf x).length then ([], 2) else (Crc.frame (headB p 1 5 ++ bytesOf x), 0) := by
  have hf : fitsB p 1 5 = true := by
    unfold fitsB
    rw [Pa.fits_of (width := 1) (by omega) (by show (p : Int) < 256; omega)]
    rfl
  unfold makeL
  rw [if_pos hf]
/-- the mask of a bit, and what turning it makes of a byte -/
theorem mask_of (j : Nat) (hj : j < 8) : ∃ m : UInt8, (m.toNat : Int) = 2 ^ j ∧ m ≠ 0 := by
  have h : j = 0 ∨ j = 1 ∨ j = 2 ∨ j = 3 ∨ j = 4 ∨ j = 5 ∨ j = 6 ∨ j = 7 := by omega
  rcases h with rfl | rfl | rfl | rfl | rfl | rfl | rfl | rfl
  · exact ⟨1, rfl, by decide⟩
  · exact ⟨2, rfl, by decide⟩
  · exact ⟨4, rfl, by decide⟩
  · exact ⟨8, rfl, by decide⟩
  · exact ⟨16, rfl, by decide⟩
  · exact ⟨32, rfl, by decide⟩
  · exact ⟨64, rfl, by decide⟩
  · exact ⟨128, rfl, by decide⟩

theorem spoil_take (p : Nat) (x : List UInt8) : (R.new p 9).take 6 ⟨p, 1, 5, x, 0⟩ = (x, 0, ⟨true, 1, 0, p, 9, 5⟩) := by
  have hr : (R.new p 9).refuse 6 p 5 = 0 := by
    unfold R.refuse R.new
    simp only
    rw [if_neg (by simp), if_neg (by decide), if_neg (by decide), if_neg (by decide)]
  rw [take_ok (t := ⟨p, 1, 5, x, 0⟩) rfl hr]
  rfl
set_option maxRecDepth 100000 in
set_option maxHeartbeats 4000000 in
theorem spoil_walk (peer : Int) (x : ByteArray) (bit : Int) (w : World) :
    Calls Try.prog 9 #[.int .i64 peer, .string x, .int .i64 bit] w fun e w' => e = .returned (.bool true) ∧ Below w.heap.size w w' := by
  obtain ⟨p, hp', hp⟩ := Se.umod peer 256 (by decide) (by decide)
  have hpe : wrap64 ((IntKind.u64.wrap peer).tmod 256) = p := hp'
  have HP := Lib.hid hpe
  have KL := lives_any w
  have KM := fun W => make_any p 1 5 x W
  have hbx := bytesOf_length x
  rw [spoil_tel p hp x] at KM
  clear hp' hpe
  by_cases hl : 1000 < (bytesOf x).length
  · rw [if_pos hl] at KM
    have hd1 : decide ((1000 : Int) < (x.size : Int)) = true := decide_eq_true (by omega)
    clear hl hbx
    go_enter Try.func9, Try.ntmps9
    go_wp2_with fail
    refine KL.mono ?_
    rintro e w1 ⟨rfl, f1⟩
    have HF1 := Lib.hid f1
    clear KL f1
    go_wp2_with fail
    rw [HP.out]
    refine (KM _).mono ?_
    rintro e w2 ⟨rfl, f2⟩
    have HF2 := Lib.hid (HF1.out.trans f2 fun _ _ h => h)
    clear KM HF1 f2 HP
    go_wp2_with fail
    go_ret
    exact ⟨rfl, HF2.out.toBelow0⟩
  · rw [if_neg hl] at KM
    have hfit : fitsB p 1 5 = true := by
      unfold fitsB
      rw [Pa.fits_of (width := 1) (by omega) (by show (p : Int) < 256; omega)]
      rfl
    have hbl : (headB p 1 5 ++ bytesOf x).length ≤ 1007 := by rw [List.length_append, head_length]; omega
    have hb7 : 7 ≤ (headB p 1 5 ++ bytesOf x).length := by rw [List.length_append, head_length]; omega
    have hrd : readL (Crc.frame (headB p 1 5 ++ bytesOf x)) = ⟨p, 1, 5, bytesOf x, 0⟩ := by rw [read_body hb7 hbl, body_head hfit]
    have hone := fun (k : Nat) (hk : k < (Crc.frame (headB p 1 5 ++ bytesOf x)).length) (v : UInt8) (hv : v ≠ (Crc.frame (headB p 1 5 ++ bytesOf x))[k]) => read_one (b := headB p 1 5 ++ bytesOf x) (by omega) hk hv
    have hfl := Crc.frame_length (headB p 1 5 ++ bytesOf x)
    generalize Crc.frame (headB p 1 5 ++ bytesOf x) = fr at *
    obtain ⟨F, hF⟩ : ∃ F : ByteArray, F = ⟨fr.toArray⟩ := ⟨_, rfl⟩
    have hbF : bytesOf F = fr := by rw [hF]; rfl
    simp only at KM
    rw [← hF] at KM
    have hFs : F.size = fr.length := by rw [← hbF, bytesOf_length]
    have hFb : F.size ≤ 1013 := by omega
    have hFb0 : 13 ≤ F.size := by omega
    rw [← hbF] at hone hrd
    clear hbl hb7 hfl hl hbx hfit hF hbF hFs
    clear fr
    obtain ⟨d, hd, hdl⟩ := Se.umod bit (8 * F.size) (by omega) (by omega)
    rw [show ((8 * F.size : Nat) : Int) = 8 * (F.size : Int) from by omega] at hd
    have hcv := fun W : World => run_bytes_of_string (P := Try.prog) W 9 59 5 F Try.underlying9 Try.underlying59 Try.underlying5
    have HRD := Lib.hid hrd
    have HONE := Lib.hid hone
    clear hrd hone
    go_enter Try.func9, Try.ntmps9
    go_wp2_with fail
    refine KL.mono ?_
    rintro e w1 ⟨rfl, f1⟩
    have HF1 := Lib.hid f1
    clear KL f1
    go_wp2_with fail
    rw [HP.out]
    refine (KM _).mono ?_
    rintro e w2 ⟨rfl, f2⟩
    have HF2 := Lib.hid (HF1.out.trans f2 fun _ _ h => h)
    clear KM HF1 f2 HP
    go_wp2_with fail
    rw [hd]
    clear hd hcv
    have hbw := Bw.new w2 F (grownCap w2 F.size 0 5) (bytesRow F (grownCap w2 F.size 0 5)).size (by have e : F.data.size = F.size := rfl; simp [bytesRow])
    have hg3 := (HF2.out.alloc (.cells (bytesRow F (grownCap w2 F.size 0 5)) 5 ((bytesRow F (grownCap w2 F.size 0 5)).size, (bytesRow F (grownCap w2 F.size 0 5)).size + 1))).drew
    have hbw3 : Bw (w2.alloc (.cells (bytesRow F (grownCap w2 F.size 0 5)) 5 ((bytesRow F (grownCap w2 F.size 0 5)).size, (bytesRow F (grownCap w2 F.size 0 5)).size + 1))).drew w2.heap.size (bytesOf F) := hbw
    have hle : w.heap.size ≤ w2.heap.size := HF2.out.size
    generalize (w2.alloc (.cells (bytesRow F (grownCap w2 F.size 0 5)) 5 ((bytesRow F (grownCap w2 F.size 0 5)).size, (bytesRow F (grownCap w2 F.size 0 5)).size + 1))).drew = W at *
    generalize grownCap w2 F.size 0 5 = cap at *
    generalize hbb : w2.heap.size = bb at *
    have hlF : (bytesOf F).length = F.size := bytesOf_length F
    clear hbw HF2 hbb
    obtain ⟨k, j, hk, hj, hdk⟩ : ∃ k j, k < F.size ∧ j < 8 ∧ d = 8 * k + j := ⟨d / 8, d % 8, by omega, by omega, by omega⟩
    subst hdk
    have c1 := hbw3.cell (j := k) (by omega)
    have z1 := hbw3.frozen (j := k) (by omega)
    obtain ⟨m, hm, hm0⟩ := mask_of j hj
    generalize hy : (bytesOf F)[k]'(by omega) = y at *
    have hq : ((8 * k + j : Nat) : Int).tdiv 8 = (k : Nat) := by
      rw [Int.tdiv_eq_ediv_of_nonneg (by omega)]; omega
    have hr : ((8 * k + j : Nat) : Int).tmod 8 = (j : Nat) := by
      rw [Int.tmod_eq_emod_of_nonneg (by omega)]; omega
    generalize hdd : 8 * k + j = d at *
    unfold B at c1
    go_region
    have hml := UInt8.toNat_lt m
    have hx : bits .xor .u8 (y.toNat : Int) (2 ^ j % 256) = ((y ^^^ m).toNat : Int) := by
      rw [← hm, Int.emod_eq_of_lt (by omega) (by omega)]
      exact u8_xor y m
    rw [hx]
    have hve : (readL ((bytesOf F).set k (y ^^^ m))).e ≠ 0 := HONE.out k (by omega) _ (by rw [hy]; exact xor_ne hm0)
    have hb4 := hbw3.set (j := k) (y ^^^ m)
    have hg4 : Fr (fun _ => False) w (W.setCell ⟨bb, k, none⟩ (B (y ^^^ m))).drew := (hg3.setCell (p := ⟨bb, k, none⟩) (.inr hle) _).drew
    have hb4' : Bw (W.setCell ⟨bb, k, none⟩ (B (y ^^^ m))).drew bb ((bytesOf F).set k (y ^^^ m)) := hb4
    have hsl : ((bytesOf F).set k (y ^^^ m)).length = F.size := by rw [List.length_set, hlF]
    show Exit.then _ _ Exit.normal _ (W.setCell ⟨bb, k, none⟩ (B (y ^^^ m))).drew
    generalize (W.setCell ⟨bb, k, none⟩ (B (y ^^^ m))).drew = W4 at *
    generalize (bytesOf F).set k (y ^^^ m) = gs at *
    have K1 := newrecv_any p 9 W4
    obtain ⟨rb, hrb⟩ : ∃ rb, rb = W4.heap.size := ⟨_, rfl⟩
    rw [← hrb] at K1
    have HR : Hid (w.heap.size ≤ rb) := Lib.hid (by have := hg4.size; omega)
    have HG := Lib.hid hg4
    have hT := fun (w5 : World) (f : Fr (fun _ => False) W4 w5) => (hb4'.fr f id).text cap (n := F.size) hsl
    have HT := Lib.hid hT
    clear hx hml hm hm0 hy hdd hq hr hb4 hb4' hg4 hbw3 hg3 c1 z1 hrb hT HONE hsl
    obtain ⟨G, hG⟩ : ∃ G : ByteArray, G = ⟨gs.toArray⟩ := ⟨_, rfl⟩
    have hbG : bytesOf G = gs := by rw [hG]; rfl
    rw [← hbG] at hve
    rw [← hG] at HT
    clear hbG hG
    go_wp2_with fail
    refine K1.mono ?_
    rintro e w5 ⟨rfl, i5, f5⟩
    have hT := HT.out w5 f5
    have HF5 := Lib.hid (HG.out.trans f5 fun _ _ h => h)
    have KT := take_any i5 6 G (by decide) (by show (0 : Int) ≤ 0; decide) (by show (0 : Int) ≤ _; decide)
    rw [take_bad hve] at KT
    generalize (readL (bytesOf G)).e = e0 at *
    have he0 : (e0 == 0) = false := by simpa using hve
    simp only at KT
    clear K1 f5 i5 HT HG hve
    go_wp2_with fail
    refine KT.mono ?_
    rintro e w6 ⟨rfl, i6, f6⟩
    have HF6 := Lib.hid (HF5.out.trans f6 fun j hj h => by have := HR.out; omega)
    have KZ := last_any i6
    clear KT f6 HF5 hT
    go_wp2_with fail
    refine KZ.mono ?_
    rintro e w6 ⟨rfl, rfl⟩
    clear KZ
    go_wp2_with fail
    have KA := alive_any i6 6 (by decide)
    rw [show (R.new p 9).alive 6 = false from rfl] at KA
    refine KA.mono ?_
    rintro e w7 ⟨rfl, n7, rfl⟩
    have i7 : Rv (w6.drewN n7) rb (R.new p 9) := i6
    have HF7 := Lib.hid (HF6.out.drewN n7)
    clear KA i6 HF6
    generalize w6.drewN n7 = w7 at *
    have KT := take_any i7 6 F (by decide) (by show (0 : Int) ≤ 0; decide) (by show (0 : Int) ≤ _; decide)
    rw [HRD.out, spoil_take] at KT
    simp only at KT
    rw [mk_bytesOf x] at KT
    have qx : (x.toList == x.toList) = true := beq_self_eq_true _
    clear i7
    go_wp2_with fail
    refine KT.mono ?_
    rintro e w8 ⟨rfl, i8, f8⟩
    have HF8 := Lib.hid (HF7.out.trans f8 fun j hj h => by have := HR.out; omega)
    have KZ := last_any i8
    clear KT f8 HF7
    go_wp2_with fail
    refine KZ.mono ?_
    rintro e w9 ⟨rfl, rfl⟩
    go_wp2_with fail
    go_ret
    exact ⟨rfl, HF8.out.toBelow0⟩
end Go.Proofs.Ytcencpkoimahbaa

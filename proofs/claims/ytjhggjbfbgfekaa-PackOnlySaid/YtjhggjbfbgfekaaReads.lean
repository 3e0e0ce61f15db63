/- The walk of PackReads: both readers take the same, thing by thing. -/
import Derived.Test.YtjhggjbfbgfekaaMtext
import Derived.Test.YtjhggjbfbgfekaaWidths
namespace Go.Proofs.Ytjhggjbfbgfekaa
open Go.RowKit

theorem left_same {w : World} {b : Nat} {r : Rs} (h : Re w b r.s r.bad) :
    Calls Try.prog 26 #[.pointer (some ⟨b, 0, none⟩)] w fun e w' => e = .returned (.int .i64 (r.s.size : Int)) ∧ w' = w := (left_any h).mono fun _ _ ⟨h, k⟩ => ⟨h, k.symm⟩
theorem end_same {w : World} {b : Nat} {r : Rs} (h : Re w b r.s r.bad) :
    Calls Try.prog 27 #[.pointer (some ⟨b, 0, none⟩)] w fun e w' => e = .returned (.int .i64 r.fin) ∧ w' = w := (end_any h).mono fun _ _ ⟨h, k⟩ => ⟨h, k.symm⟩
theorem mend_same {w : World} {b : Nat} {r : Rs} (h : Rm w b r.s r.bad) :
    Calls Try.prog 28 #[.pointer (some ⟨b, 0, none⟩)] w fun e w' => e = .returned (.int .i64 r.fin) ∧ w' = w := (mrend_any h).mono fun _ _ ⟨h, k⟩ => ⟨h, k.symm⟩
theorem Rs.aft_size (r : Rs) (n : Nat) : (r.aft n).s.size ≤ r.s.size := by
  unfold Rs.aft; split
  · exact Nat.le_refl _
  · simp [ByteArray.size_extract]

set_option maxHeartbeats 1600000 in
theorem reads_walk (s : ByteArray) (hs : s.size ≤ 140737488355328) (A : Option Addr) (c : Nat) (l : List Thing) (w : World) (hl : Things w A l) (hlen : l.length ≤ 140737488355328) :
    Calls Try.prog 4 #[.string s, .slice A l.length c] w fun e w' => e = .returned (.bool true) ∧ Below w.heap.size w w' := by
  go_enter Try.func4, Try.ntmps4
  go_wp2_with fail
  refine (lives_any _).mono ?_
  rintro e w1 ⟨rfl, hf1⟩
  go_wp2_with fail
  refine (read_calls s _).mono ?_
  rintro e w2 ⟨rfl, hR, hf2⟩
  have b1 := hf1.size
  have bX : w1.heap.size < w2.heap.size := Is.lt hR
  have g := hf1.trans hf2 (fun _ _ h => h)
  have hR3 : Re (w2.alloc (.cells #[.string s, .bool false] 48)) w1.heap.size s false := Re.fr hR ((Fr.refl (fun _ => False) w2).alloc _) id
  have hM3 : Rm (w2.alloc (.cells #[.string s, .bool false] 48)) w2.heap.size s false := Is.new _ _ _
  have g3 : Fr (fun _ => False) w (w2.alloc (.cells #[.string s, .bool false] 48)) := g.alloc _
  clear hf1 hf2 hR g
  go_wp2_with fail
  generalize w2.alloc (.cells #[.string s, .bool false] 48) = w3 at *
  generalize w1.heap.size = p1 at *
  generalize w2.heap.size = p2 at *
  go_loopw [19] (fun i wr => ∃ k, ∃ r : Rs, k ≤ l.length ∧ i = .int .i64 (k : Nat) ∧ Re wr p1 r.s r.bad ∧ Rm wr p2 r.s r.bad ∧ r.s.size ≤ 140737488355328 ∧ Fr (fun _ => False) w wr) (fun i _ => l.length - (intOf i).toNat)
  case atStart => exact ⟨0, ⟨s, false⟩, Nat.zero_le _, rfl, hR3, hM3, hs, g3⟩
  case round =>
    obtain ⟨k, r, hk, rfl, hR1, hM1, hrs, g1⟩ := hrel
    by_cases hlt : k < l.length
    · obtain ⟨gg, o, rfl, hgl, hc⟩ := hl (by omega)
      obtain ⟨hc0, hc1, hc2⟩ := hc k hlt
      have c0 : wr.cell? ⟨gg, o + k * 3, none⟩ = some (.int .i64 l[k].k) := (g1.cell (p := ⟨gg, o + k * 3, none⟩) hgl id).trans hc0
      have c1 : wr.cell? ⟨gg, o + k * 3 + 1, none⟩ = some (.int .i64 l[k].n) := (g1.cell (p := ⟨gg, o + k * 3 + 1, none⟩) hgl id).trans hc1
      have c2 : wr.cell? ⟨gg, o + k * 3 + 2, none⟩ = some (.string l[k].x) := (g1.cell (p := ⟨gg, o + k * 3 + 2, none⟩) hgl id).trans hc2
      clear hc0 hc1 hc2 hc
      generalize l[k].k = tk at *
      generalize l[k].n = tn at *
      generalize l[k].x = tx at *
      have fA : Fr (fun _ => False) wr (wr.alloc (.cells #[.int .i64 tk, .int .i64 tn, .string tx] 29)) := (Fr.refl _ wr).alloc _
      have hR2 := hR1.fr fA id
      have hM2 := hM1.fr fA id
      have g2 := g1.trans fA (fun _ _ h => h)
      have K := fun W => kind_any tk tn tx W
      have hcs := kindOf_cases tk
      clear hR1 hM1 g1 fA
      go_wp2_with fail
      refine (K _).mono ?_
      rintro e w5 ⟨rfl, f5⟩
      have hR5 := hR2.fr f5 id
      have hM5 := hM2.fr f5 id
      have g5 := g2.trans f5 (fun _ _ h => h)
      clear K hR2 hM2 g2 f5 c0 c1 c2
      generalize kindOf tk = q at *
      rcases hcs with rfl | rfl | rfl | rfl
      · go_wp2_with fail
        refine (rbyte_any hR5).mono ?_
        rintro e w6 ⟨rfl, hR6, f6⟩
        have hM6 := hM5.fr f6 (by omega)
        have g6 := g5.trans f6 (fun k hk e => by omega)
        clear hR5 hM5 g5 f6
        have K := mrnum_any hM6 1 (by decide)
        generalize val (bytesOf (r.tk 1)) = v at *
        go_wp2_with fail
        refine K.mono ?_
        rintro e w7 ⟨rfl, hM7, f7⟩
        have hR7 := hR6.fr f7 (by omega)
        have g7 := g6.trans f7 (fun k hk e => by omega)
        have hsz := Rs.aft_size r 1
        have hrs7 : (r.aft 1).s.size ≤ 140737488355328 := Nat.le_trans hsz hrs
        clear hR6 hM6 g6 f7 K hsz hrs
        generalize r.aft 1 = r' at *
        have KL := fun n => left_same (hR7.drewN n)
        have KE := fun n => end_same (hR7.drewN n)
        have KM := fun n => mend_same (hM7.drewN n)
        have m0 : w7.cell? ⟨p2, 0, none⟩ = some (.string r'.s) := (Is.cell hM7 0).trans rfl
        go_wp2
        go_quiet (first | (go_at_call 26; exact Calls.quiet_of_same (KL _)) | (go_at_call 27; exact Calls.quiet_of_same (KE _)) | (go_at_call 28; exact Calls.quiet_of_same (KM _)))
        go_wp2
        go_roundw
        case rel => exact ⟨k + 1, r', by omega, by go_num, hR7.drewN nq, hM7.drewN nq, hrs7, g7.drewN nq⟩
        case measure => simp [intOf]; omega
      · go_wp2_with fail
        refine (rword_any hR5).mono ?_
        rintro e w6 ⟨rfl, hR6, f6⟩
        have hM6 := hM5.fr f6 (by omega)
        have g6 := g5.trans f6 (fun k hk e => by omega)
        clear hR5 hM5 g5 f6
        have K := mrnum_any hM6 2 (by decide)
        generalize val (bytesOf (r.tk 2)) = v at *
        go_wp2_with fail
        refine K.mono ?_
        rintro e w7 ⟨rfl, hM7, f7⟩
        have hR7 := hR6.fr f7 (by omega)
        have g7 := g6.trans f7 (fun k hk e => by omega)
        have hsz := Rs.aft_size r 2
        have hrs7 : (r.aft 2).s.size ≤ 140737488355328 := Nat.le_trans hsz hrs
        clear hR6 hM6 g6 f7 K hsz hrs
        generalize r.aft 2 = r' at *
        have KL := fun n => left_same (hR7.drewN n)
        have KE := fun n => end_same (hR7.drewN n)
        have KM := fun n => mend_same (hM7.drewN n)
        have m0 : w7.cell? ⟨p2, 0, none⟩ = some (.string r'.s) := (Is.cell hM7 0).trans rfl
        go_wp2
        go_quiet (first | (go_at_call 26; exact Calls.quiet_of_same (KL _)) | (go_at_call 27; exact Calls.quiet_of_same (KE _)) | (go_at_call 28; exact Calls.quiet_of_same (KM _)))
        go_wp2
        go_roundw
        case rel => exact ⟨k + 1, r', by omega, by go_num, hR7.drewN nq, hM7.drewN nq, hrs7, g7.drewN nq⟩
        case measure => simp [intOf]; omega
      · go_wp2_with fail
        refine (rlong_any hR5).mono ?_
        rintro e w6 ⟨rfl, hR6, f6⟩
        have hM6 := hM5.fr f6 (by omega)
        have g6 := g5.trans f6 (fun k hk e => by omega)
        clear hR5 hM5 g5 f6
        have K := mrnum_any hM6 4 (by decide)
        generalize val (bytesOf (r.tk 4)) = v at *
        go_wp2_with fail
        refine K.mono ?_
        rintro e w7 ⟨rfl, hM7, f7⟩
        have hR7 := hR6.fr f7 (by omega)
        have g7 := g6.trans f7 (fun k hk e => by omega)
        have hsz := Rs.aft_size r 4
        have hrs7 : (r.aft 4).s.size ≤ 140737488355328 := Nat.le_trans hsz hrs
        clear hR6 hM6 g6 f7 K hsz hrs
        generalize r.aft 4 = r' at *
        have KL := fun n => left_same (hR7.drewN n)
        have KE := fun n => end_same (hR7.drewN n)
        have KM := fun n => mend_same (hM7.drewN n)
        have m0 : w7.cell? ⟨p2, 0, none⟩ = some (.string r'.s) := (Is.cell hM7 0).trans rfl
        go_wp2
        go_quiet (first | (go_at_call 26; exact Calls.quiet_of_same (KL _)) | (go_at_call 27; exact Calls.quiet_of_same (KE _)) | (go_at_call 28; exact Calls.quiet_of_same (KM _)))
        go_wp2
        go_roundw
        case rel => exact ⟨k + 1, r', by omega, by go_num, hR7.drewN nq, hM7.drewN nq, hrs7, g7.drewN nq⟩
        case measure => simp [intOf]; omega
      · go_wp2_with fail
        refine (rtext_any hR5).mono ?_
        rintro e w6 ⟨rfl, hR6, f6⟩
        have hM6 := hM5.fr f6 (by omega)
        have g6 := g5.trans f6 (fun k hk e => by omega)
        clear hR5 hM5 g5 f6
        have K := mrtext_any hM6 hrs
        generalize r.txt = v at *
        go_wp2_with fail
        refine K.mono ?_
        rintro e w7 ⟨rfl, hM7, f7⟩
        have hR7 := hR6.fr f7 (by omega)
        have g7 := g6.trans f7 (fun k hk e => by omega)
        have hsz := Rs.aft_size r r.size
        have hrs7 : (r.aft r.size).s.size ≤ 140737488355328 := Nat.le_trans hsz hrs
        clear hR6 hM6 g6 f7 K hsz hrs
        generalize r.aft r.size = r' at *
        have KL := fun n => left_same (hR7.drewN n)
        have KE := fun n => end_same (hR7.drewN n)
        have KM := fun n => mend_same (hM7.drewN n)
        have m0 : w7.cell? ⟨p2, 0, none⟩ = some (.string r'.s) := (Is.cell hM7 0).trans rfl
        go_wp2
        go_quiet (first | (go_at_call 26; exact Calls.quiet_of_same (KL _)) | (go_at_call 27; exact Calls.quiet_of_same (KE _)) | (go_at_call 28; exact Calls.quiet_of_same (KM _)))
        go_wp2
        go_roundw
        case rel => exact ⟨k + 1, r', by omega, by go_num, hR7.drewN nq, hM7.drewN nq, hrs7, g7.drewN nq⟩
        case measure => simp [intOf]; omega
    · go_wp2
      go_ret
      exact ⟨rfl, g1.toBelow0⟩
end Go.Proofs.Ytjhggjbfbgfekaa

/- The walk of PackBack: what was written without an error is read again, in the same order, to the end. -/
import Derived.Test.YtjhggjbfbgfekaaEnc
import Derived.Deep.RegionWith
namespace Go.Proofs.Ytjhggjbfbgfekaa
open Go.RowKit

set_option maxHeartbeats 1600000 in
theorem back_walk (L : Int) (hL : L ≤ 9223372036854775807) (A : Option Addr) (c : Nat) (l : List Thing) (w : World) (hl : Things w A l) (hlen : l.length ≤ 1048576) (hsz : ∀ t ∈ l, t.x.size ≤ 1048576) :
    Calls Try.prog 5 #[.int .i64 L, .slice A l.length c] w fun e w' => e = .returned (.bool true) ∧ Below w.heap.size w w' := by
  go_enter Try.func5, Try.ntmps5
  go_wp2_with fail
  refine (lives_any _).mono ?_
  rintro e w1 ⟨rfl, hf1⟩
  go_wp2_with fail
  refine (new_calls L _ hL).mono ?_
  rintro e w2 ⟨rfl, hW, hf2⟩
  have g := hf1.trans hf2 (fun _ _ h => h)
  have b1 := hf1.size
  clear hf1 hf2
  generalize w1.heap.size = p1 at *
  go_wp2_with fail
  go_loopw [19] (fun i wr => ∃ k F1, k ≤ l.length ∧ i = .int .i64 (k : Nat) ∧ Wr wr p1 F1 ((⟨max L 0, [], 0⟩ : Pk.S).items (l.take k)) ∧ Fr (fun _ => False) w wr ∧ (∀ g, F1 = some g → w.heap.size ≤ g)) (fun i _ => l.length - (intOf i).toNat)
  case atStart => exact ⟨0, none, Nat.zero_le _, rfl, hW, g, (fun _ h => by cases h)⟩
  case round =>
    obtain ⟨k, F1, hk, rfl, hW1, g1, o1⟩ := hrel
    by_cases hlt : k < l.length
    · obtain ⟨gg, o, rfl, hgl, hc⟩ := hl (by omega)
      obtain ⟨hc0, hc1, hc2⟩ := hc k hlt
      have c0 : wr.cell? ⟨gg, o + k * 3, none⟩ = some (.int .i64 l[k].k) := (g1.cell (p := ⟨gg, o + k * 3, none⟩) hgl id).trans hc0
      have c1 : wr.cell? ⟨gg, o + k * 3 + 1, none⟩ = some (.int .i64 l[k].n) := (g1.cell (p := ⟨gg, o + k * 3 + 1, none⟩) hgl id).trans hc1
      have c2 : wr.cell? ⟨gg, o + k * 3 + 2, none⟩ = some (.string l[k].x) := (g1.cell (p := ⟨gg, o + k * 3 + 2, none⟩) hgl id).trans hc2
      have hsn : (⟨max L 0, [], 0⟩ : Pk.S).items (l.take (k + 1)) = ((⟨max L 0, [], 0⟩ : Pk.S).items (l.take k)).item l[k].k l[k].n l[k].x := by
        rw [List.take_succ_eq_append_getElem hlt, Pk.S.items_snoc]
      have hnb := Pk.S.items_len (⟨max L 0, [], 0⟩ : Pk.S) (l.take k)
      rw [List.length_take, Nat.min_eq_left hk, List.length_nil, Nat.zero_add] at hnb
      have hxs : l[k].x.size ≤ 140737488355328 := by have := hsz _ (List.getElem_mem hlt); omega
      have HS := Lib.hid hsn
      clear hsn hc0 hc1 hc2 hc
      generalize (⟨max L 0, [], 0⟩ : Pk.S).items (l.take k) = sk at *
      generalize l[k].k = tk at *
      generalize l[k].n = tn at *
      generalize l[k].x = tx at *
      have hbd : sk.L ≤ 140737488355328 ∨ sk.bs.length + 256 ≤ 140737488355328 := by omega
      have fA : Fr (fun _ => False) wr (wr.alloc (.cells #[.int .i64 tk, .int .i64 tn, .string tx] 29)) := (Fr.refl _ wr).alloc _
      have hW2 := hW1.fr fA id (fun _ _ => id)
      have g2 := g1.trans fA (fun _ _ h => h)
      go_wp2_with fail
      refine (write_any hW2 tk tn tx hbd hxs).mono ?_
      rintro e w5 ⟨rfl, F3, hW5, m5⟩
      obtain ⟨g5, o5⟩ := m5.own g2 b1 o1
      clear m5 hW2 hW1 g2 fA c0 c1 c2
      go_wp2
      go_roundw
      case rel => exact ⟨k + 1, F3, by omega, by go_num, by rw [HS.out]; exact hW5, g5, o5⟩
      case measure => simp [intOf]; omega
    · have hkl : k = l.length := by omega
      rw [hkl, List.take_of_length_le (Nat.le_refl _)] at hW1
      have hba := Pk.S.items_back (s := ⟨max L 0, [], 0⟩) l
      have hok := hW1.ok
      clear hsz g hW
      generalize (⟨max L 0, [], 0⟩ : Pk.S).items l = sl at *
      by_cases he : sl.e = 0
      · obtain ⟨-, hfit, hbs⟩ := hba he
        rw [List.nil_append] at hbs
        have hd : sl.done = (l.flatMap Thing.enc, 0) := by simp [Pk.S.done, he, hbs]
        have K := done_any hW1
        rw [hd] at K
        have HF := Lib.hid hfit
        clear hd hbs hfit hba hok he hkl hW1
        go_wp2_with fail
        refine K.mono ?_
        rintro e w5 ⟨rfl, n5, rfl⟩
        have g5 := g1.drewN n5
        clear K g1
        generalize wr.drewN n5 = w5 at *
        go_wp2_with fail
        refine (read_calls _ _).mono ?_
        rintro e w6 ⟨rfl, hR, f6⟩
        have g6 := g5.trans f6 (fun _ _ h => h)
        have b6 := g5.size
        clear g5 f6 b1
        generalize w5.heap.size = p2 at *
        go_wp2_with fail
        go_loopw [40] (fun i wr => ∃ k, ∃ r : Rs, k ≤ l.length ∧ i = .int .i64 (k : Nat) ∧ Re wr p2 r.s r.bad ∧ r.bad = false ∧ bytesOf r.s = (l.drop k).flatMap Thing.enc ∧ Fr (fun _ => False) w wr) (fun i _ => l.length - (intOf i).toNat)
        case atStart => exact ⟨0, ⟨⟨(l.flatMap Thing.enc).toArray⟩, false⟩, Nat.zero_le _, rfl, hR, rfl, rfl, g6⟩
        case round =>
          obtain ⟨k, r, hk, rfl, hR1, hbad, hrest, g1⟩ := hrel
          by_cases hlt : k < l.length
          · obtain ⟨gg, o, rfl, hgl, hc⟩ := hl (by omega)
            obtain ⟨hc0, hc1, hc2⟩ := hc k hlt
            have c0 : wr.cell? ⟨gg, o + k * 3, none⟩ = some (.int .i64 l[k].k) := (g1.cell (p := ⟨gg, o + k * 3, none⟩) hgl id).trans hc0
            have c1 : wr.cell? ⟨gg, o + k * 3 + 1, none⟩ = some (.int .i64 l[k].n) := (g1.cell (p := ⟨gg, o + k * 3 + 1, none⟩) hgl id).trans hc1
            have c2 : wr.cell? ⟨gg, o + k * 3 + 2, none⟩ = some (.string l[k].x) := (g1.cell (p := ⟨gg, o + k * 3 + 2, none⟩) hgl id).trans hc2
            have hfit := HF.out _ (List.getElem_mem hlt)
            rw [List.drop_eq_getElem_cons hlt, List.flatMap_cons] at hrest
            have hl1 := Is.lt hR1
            clear hc0 hc1 hc2 hc
            generalize l[k] = t at *
            obtain ⟨tk, tn, tx⟩ := t
            simp only [Thing.fit, Thing.enc] at hfit hrest
            simp only at c0 c1 c2
            have fA : Fr (fun _ => False) wr (wr.alloc (.cells #[.int .i64 tk, .int .i64 tn, .string tx] 29)) := (Fr.refl _ wr).alloc _
            have hR2 := hR1.fr fA id
            have g2 := g1.trans fA (fun _ _ h => h)
            have hbox : Is (wr.alloc (.cells #[.int .i64 tk, .int .i64 tn, .string tx] 29)) wr.heap.size 29 #[.int .i64 tk, .int .i64 tn, .string tx] := Is.new _ _ _
            have K := fun W => kind_any tk tn tx W
            have hcs := kindOf_cases tk
            clear hR1 g1 fA
            have HB := Lib.hid hbad
            have HR := Lib.hid hrest
            clear hbad hrest
            go_wp2_with fail
            refine (K _).mono ?_
            rintro e w7 ⟨rfl, f7⟩
            have hR7 := hR2.fr f7 id
            have g7 := g2.trans f7 (fun _ _ h => h)
            have hbox7 := hbox.fr f7 id
            have e0 : w7.cell? ⟨wr.heap.size, 1, none⟩ = some (.int .i64 tn) := (hbox7.cell 1).trans rfl
            have e2 : w7.cell? ⟨wr.heap.size, 2, none⟩ = some (.string tx) := (hbox7.cell 2).trans rfl
            clear K hR2 g2 f7 c0 c1 c2 hbox
            generalize kindOf tk = q at *
            rcases hcs with rfl | rfl | rfl | rfl
            · have hrest := HR.out
              rw [if_pos rfl] at hfit hrest
              have K : ∀ W, Re W p2 r.s r.bad → Calls Try.prog 20 #[.pointer (some ⟨p2, 0, none⟩)] W fun e w' => e = .returned (.int .i64 (val (bytesOf (r.tk 1)))) ∧ Re w' p2 (r.aft 1).s (r.aft 1).bad ∧ Fr (fun k => k = p2) W w' := fun W h => rbyte_any (r := r) (w := W) h
              obtain ⟨v1, v2, v3⟩ := read_enc (.inl rfl) hfit HB.out hrest
              rw [v1] at K
              have V2 := Lib.hid v2
              have V3 := Lib.hid v3
              clear v1 v2 v3 hrest
              generalize r.aft 1 = r' at *
              have KH := Lib.hid K
              clear hfit K HR
              go_wp2
              go_region_with (go_at_call 20; refine (KH.out w7.drew hR7).mono ?_; rintro e w8 ⟨rfl, hR8, f8⟩; have e8 : w8.cell? ⟨wr.heap.size, 1, none⟩ = some (.int .i64 tn) := (f8.cell (p := ⟨wr.heap.size, 1, none⟩) hbox7.lt (fun e => absurd (show wr.heap.size = p2 from e) (Nat.ne_of_gt hl1))).trans e0)
              all_goals
                clear e0 e2 hbox7 KH
                go_wp2
                go_roundw
                case rel => exact ⟨k + 1, r', by omega, by go_num, hR8, V3.out, V2.out, (g7.drew).trans f8 (fun i hi e => absurd e (by omega))⟩
                case measure => simp [intOf]; omega
            · have hrest := HR.out
              rw [if_neg (by decide), if_pos rfl] at hfit hrest
              have K : ∀ W, Re W p2 r.s r.bad → Calls Try.prog 22 #[.pointer (some ⟨p2, 0, none⟩)] W fun e w' => e = .returned (.int .i64 (val (bytesOf (r.tk 2)))) ∧ Re w' p2 (r.aft 2).s (r.aft 2).bad ∧ Fr (fun k => k = p2) W w' := fun W h => rword_any (r := r) (w := W) h
              obtain ⟨v1, v2, v3⟩ := read_enc (.inr (.inl rfl)) hfit HB.out hrest
              rw [v1] at K
              have V2 := Lib.hid v2
              have V3 := Lib.hid v3
              clear v1 v2 v3 hrest
              generalize r.aft 2 = r' at *
              have KH := Lib.hid K
              clear hfit K HR
              go_wp2
              go_region_with (go_at_call 22; refine (KH.out w7.drew hR7).mono ?_; rintro e w8 ⟨rfl, hR8, f8⟩; have e8 : w8.cell? ⟨wr.heap.size, 1, none⟩ = some (.int .i64 tn) := (f8.cell (p := ⟨wr.heap.size, 1, none⟩) hbox7.lt (fun e => absurd (show wr.heap.size = p2 from e) (Nat.ne_of_gt hl1))).trans e0)
              all_goals
                clear e0 e2 hbox7 KH
                go_wp2
                go_roundw
                case rel => exact ⟨k + 1, r', by omega, by go_num, hR8, V3.out, V2.out, (g7.drew).trans f8 (fun i hi e => absurd e (by omega))⟩
                case measure => simp [intOf]; omega
            · have hrest := HR.out
              rw [if_neg (by decide), if_neg (by decide), if_pos rfl] at hfit hrest
              have K : ∀ W, Re W p2 r.s r.bad → Calls Try.prog 23 #[.pointer (some ⟨p2, 0, none⟩)] W fun e w' => e = .returned (.int .i64 (val (bytesOf (r.tk 4)))) ∧ Re w' p2 (r.aft 4).s (r.aft 4).bad ∧ Fr (fun k => k = p2) W w' := fun W h => rlong_any (r := r) (w := W) h
              obtain ⟨v1, v2, v3⟩ := read_enc (.inr (.inr rfl)) hfit HB.out hrest
              rw [v1] at K
              have V2 := Lib.hid v2
              have V3 := Lib.hid v3
              clear v1 v2 v3 hrest
              generalize r.aft 4 = r' at *
              have KH := Lib.hid K
              clear hfit K HR
              go_wp2
              go_region_with (go_at_call 23; refine (KH.out w7.drew hR7).mono ?_; rintro e w8 ⟨rfl, hR8, f8⟩; have e8 : w8.cell? ⟨wr.heap.size, 1, none⟩ = some (.int .i64 tn) := (f8.cell (p := ⟨wr.heap.size, 1, none⟩) hbox7.lt (fun e => absurd (show wr.heap.size = p2 from e) (Nat.ne_of_gt hl1))).trans e0)
              all_goals
                clear e0 e2 hbox7 KH
                go_wp2
                go_roundw
                case rel => exact ⟨k + 1, r', by omega, by go_num, hR8, V3.out, V2.out, (g7.drew).trans f8 (fun i hi e => absurd e (by omega))⟩
                case measure => simp [intOf]; omega
            · have hrest := HR.out
              rw [if_neg (by decide), if_neg (by decide), if_neg (by decide)] at hfit hrest
              have K : ∀ W, Re W p2 r.s r.bad → Calls Try.prog 24 #[.pointer (some ⟨p2, 0, none⟩)] W fun e w' => e = .returned (.string r.txt) ∧ Re w' p2 (r.aft r.size).s (r.aft r.size).bad ∧ Fr (fun k => k = p2) W w' := fun W h => rtext_any (r := r) (w := W) h
              obtain ⟨v1, v2, v3⟩ := read_text hfit HB.out hrest
              rw [v1] at K
              have V2 := Lib.hid v2
              have V3 := Lib.hid v3
              clear v1 v2 v3 hrest
              generalize r.aft r.size = r' at *
              have KH := Lib.hid K
              clear hfit K HR
              go_wp2
              go_region_with (go_at_call 24; refine (KH.out w7.drew hR7).mono ?_; rintro e w8 ⟨rfl, hR8, f8⟩; have e8 : w8.cell? ⟨wr.heap.size, 2, none⟩ = some (.string tx) := (f8.cell (p := ⟨wr.heap.size, 2, none⟩) hbox7.lt (fun e => absurd (show wr.heap.size = p2 from e) (Nat.ne_of_gt hl1))).trans e2)
              all_goals
                clear e0 e2 hbox7 KH
                go_wp2
                go_roundw
                case rel => exact ⟨k + 1, r', by omega, by go_num, hR8, V3.out, V2.out, (g7.drew).trans f8 (fun i hi e => absurd e (by omega))⟩
                case measure => simp [intOf]; omega
          · have hkl2 : k = l.length := by omega
            rw [hkl2, List.drop_of_length_le (Nat.le_refl _), List.flatMap_nil] at hrest
            have hs0 : r.s.size = 0 := by rw [size_of, hrest]; rfl
            have K1 := end_any hR1
            have K2 := left_any hR1
            have hfin : r.fin = 0 := by unfold Rs.fin; rw [hbad, hs0]; rfl
            rw [hfin] at K1
            rw [hs0] at K2
            clear hkl2 hrest hs0 hfin hbad hl HF
            go_wp2_with fail
            refine K1.mono ?_
            rintro e w8 ⟨rfl, rfl⟩
            go_wp2_with fail
            refine K2.mono ?_
            rintro e w9 ⟨rfl, rfl⟩
            go_wp2
            go_ret
            exact ⟨rfl, g1.toBelow0⟩
      · have hd : sl.done = ([], sl.e) := by simp [Pk.S.done, he]
        have K := done_any hW1
        rw [hd] at K
        have hb : (sl.e != 0) = true := by simpa using he
        clear hd hba hok he hkl hW1
        go_wp2_with fail
        refine K.mono ?_
        rintro e w5 ⟨rfl, n5, rfl⟩
        clear K
        go_wp2
        go_ret
        exact ⟨rfl, (g1.drewN n5).toBelow0⟩
end Go.Proofs.Ytjhggjbfbgfekaa

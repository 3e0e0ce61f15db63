/- The walk of PackOnly: what is read to the end of a text is written as just this text. -/
import Derived.Test.YtjhggjbfbgfekaaOnlyPlain
namespace Go.Proofs.Ytjhggjbfbgfekaa
open Go.RowKit

set_option maxHeartbeats 1600000 in
theorem only_walk (s : ByteArray) (hs : s.size ≤ 140737488355328) (A : Option Addr) (c : Nat) (l : List Thing) (w : World) (hl : Things w A l) (hlen : l.length ≤ 140737488355328) :
    Calls Try.prog 6 #[.string s, .slice A l.length c] w fun e w' => e = .returned (.bool true) ∧ Below w.heap.size w w' := by
  go_enter Try.func6, Try.ntmps6
  go_wp2_with fail
  refine (lives_any _).mono ?_
  rintro e w1 ⟨rfl, hf1⟩
  go_wp2_with fail
  refine (read_calls s _).mono ?_
  rintro e w2 ⟨rfl, hR, hf2⟩
  go_wp2_with fail
  refine (new_calls _ _ (by omega)).mono ?_
  rintro e w3 ⟨rfl, hW, hf3⟩
  have b1 := hf1.size
  have bX : w1.heap.size < w2.heap.size := Is.lt hR
  have bY : w2.heap.size < w3.heap.size := hW.lt
  have g := (hf1.trans hf2 (fun _ _ h => h)).trans hf3 (fun _ _ h => h)
  have hR3 := hR.fr hf3 id
  have hmx : max (s.size : Int) 0 = (((bytesOf s).length : Nat) : Int) := by rw [bytesOf_length]; omega
  rw [hmx] at hW
  have HT : Only (bytesOf s) ⟨s, false⟩ ⟨(((bytesOf s).length : Nat) : Int), [], 0⟩ := ⟨rfl, fun _ => ⟨rfl, rfl⟩⟩
  clear hf1 hf2 hf3 hR hmx
  generalize w1.heap.size = p1 at *
  generalize w2.heap.size = p2 at *
  have hsep : Sep p1 none p2 none := Sep.new (by omega) (by simp)
  go_wp2_with fail
  go_loopw [20] (fun i wr => ∃ k, ∃ r : Rs, ∃ F, ∃ S : Pk.S, k ≤ l.length ∧ i = .int .i64 (k : Nat) ∧ Re wr p1 r.s r.bad ∧ Wr wr p2 F S ∧ Sep p1 none p2 F ∧ Only (bytesOf s) r S ∧ Fr (fun _ => False) w wr ∧ ∀ g, F = some g → w.heap.size ≤ g) (fun i _ => l.length - (intOf i).toNat)
  case atStart => exact ⟨0, ⟨s, false⟩, none, _, Nat.zero_le _, rfl, hR3, hW, hsep, HT, g, (fun _ h => by cases h)⟩
  case round =>
    obtain ⟨k, r, F1, S, hk, rfl, hR1, hW1, s1, hO, g1, o1⟩ := hrel
    by_cases hlt : k < l.length
    · obtain ⟨gg, o, rfl, hgl, hc⟩ := hl (by omega)
      obtain ⟨hc0, hc1, hc2⟩ := hc k hlt
      have c0 : wr.cell? ⟨gg, o + k * 3, none⟩ = some (.int .i64 l[k].k) := (g1.cell (p := ⟨gg, o + k * 3, none⟩) hgl id).trans hc0
      have c1 : wr.cell? ⟨gg, o + k * 3 + 1, none⟩ = some (.int .i64 l[k].n) := (g1.cell (p := ⟨gg, o + k * 3 + 1, none⟩) hgl id).trans hc1
      have c2 : wr.cell? ⟨gg, o + k * 3 + 2, none⟩ = some (.string l[k].x) := (g1.cell (p := ⟨gg, o + k * 3 + 2, none⟩) hgl id).trans hc2
      clear hc0 hc1 hc2 hc
      generalize l[k].k = tk at *
      generalize l[k].n = tn at *
      generalize l[k].x = tx at *
      have fA : Fr (fun _ => False) wr (wr.alloc (.cells #[.int .i64 tk, .int .i64 tn, .string tx] 29)) := (Fr.refl _ wr).alloc _
      have hR2 := hR1.fr fA id
      have hW2 := hW1.fr fA id (fun _ _ => id)
      have g2 := g1.trans fA (fun _ _ h => h)
      have K := fun W => kind_any tk tn tx W
      have hcs := kindOf_cases tk
      have HO := Lib.hid hO
      clear hR1 hW1 g1 fA hO hW hR3 HT g
      go_wp2_with fail
      refine (K _).mono ?_
      rintro e w5 ⟨rfl, f5⟩
      have hR5 := hR2.fr f5 id
      have hW5 := hW2.fr f5 id (fun _ _ => id)
      have g5 := g2.trans f5 (fun _ _ h => h)
      clear K hR2 hW2 g2 f5 c0 c1 c2
      generalize kindOf tk = q at *
      rcases hcs with rfl | rfl | rfl | rfl
      · have HN := Lib.hid (only_num HO.out (.inl rfl))
        have hLb : S.L ≤ 140737488355328 := by rw [HO.out.1, bytesOf_length]; omega
        have K := rbyte_any hR5
        
        generalize val (bytesOf (r.tk 1)) = v at *
        generalize r.aft 1 = r' at *
        go_wp2_with fail
        refine K.mono ?_
        rintro e w6 ⟨rfl, hR6, f6⟩
        have hW6 := hW5.fr f6 (fun e => s1.1 e.symm) (fun i hi e => s1.2.1 (by rw [hi, show i = p1 from e]))
        have g6 := g5.trans f6 (fun k hk e => by omega)
        clear hR5 hW5 g5 f6 K
        go_wp2_with fail
        refine (byte_one hW6 v (.inl hLb)).mono ?_
        rintro e w7 ⟨rfl, F3, hW7, m7⟩
        have hR7 : Re w7 p1 r'.s r'.bad := hR6.fr m7.1 (fun e => by rcases e with e | e; exact s1.1 e; exact s1.2.1 e)
        have s7 := s1.mv m7 (Is.lt hR6) (fun _ h => by cases h)
        obtain ⟨g7, o7⟩ := m7.own g6 (by omega) o1
        clear hR6 hW6 g6 m7
        go_wp2
        go_roundw
        case rel => exact ⟨k + 1, r', F3, _, by omega, by go_num, hR7, hW7, s7, HN.out, g7, o7⟩
        case measure => simp [intOf]; omega
      · have HN := Lib.hid (only_num HO.out (.inr (.inl rfl)))
        have hLb : S.L ≤ 140737488355328 := by rw [HO.out.1, bytesOf_length]; omega
        have K := rword_any hR5
        
        generalize val (bytesOf (r.tk 2)) = v at *
        generalize r.aft 2 = r' at *
        go_wp2_with fail
        refine K.mono ?_
        rintro e w6 ⟨rfl, hR6, f6⟩
        have hW6 := hW5.fr f6 (fun e => s1.1 e.symm) (fun i hi e => s1.2.1 (by rw [hi, show i = p1 from e]))
        have g6 := g5.trans f6 (fun k hk e => by omega)
        clear hR5 hW5 g5 f6 K
        go_wp2_with fail
        refine (word_one hW6 v (.inl hLb)).mono ?_
        rintro e w7 ⟨rfl, F3, hW7, m7⟩
        have hR7 : Re w7 p1 r'.s r'.bad := hR6.fr m7.1 (fun e => by rcases e with e | e; exact s1.1 e; exact s1.2.1 e)
        have s7 := s1.mv m7 (Is.lt hR6) (fun _ h => by cases h)
        obtain ⟨g7, o7⟩ := m7.own g6 (by omega) o1
        clear hR6 hW6 g6 m7
        go_wp2
        go_roundw
        case rel => exact ⟨k + 1, r', F3, _, by omega, by go_num, hR7, hW7, s7, HN.out, g7, o7⟩
        case measure => simp [intOf]; omega
      · have HN := Lib.hid (only_num HO.out (.inr (.inr rfl)))
        have hLb : S.L ≤ 140737488355328 := by rw [HO.out.1, bytesOf_length]; omega
        have K := rlong_any hR5
        
        generalize val (bytesOf (r.tk 4)) = v at *
        generalize r.aft 4 = r' at *
        go_wp2_with fail
        refine K.mono ?_
        rintro e w6 ⟨rfl, hR6, f6⟩
        have hW6 := hW5.fr f6 (fun e => s1.1 e.symm) (fun i hi e => s1.2.1 (by rw [hi, show i = p1 from e]))
        have g6 := g5.trans f6 (fun k hk e => by omega)
        clear hR5 hW5 g5 f6 K
        go_wp2_with fail
        refine (long_one hW6 v (.inl hLb)).mono ?_
        rintro e w7 ⟨rfl, F3, hW7, m7⟩
        have hR7 : Re w7 p1 r'.s r'.bad := hR6.fr m7.1 (fun e => by rcases e with e | e; exact s1.1 e; exact s1.2.1 e)
        have s7 := s1.mv m7 (Is.lt hR6) (fun _ h => by cases h)
        obtain ⟨g7, o7⟩ := m7.own g6 (by omega) o1
        clear hR6 hW6 g6 m7
        go_wp2
        go_roundw
        case rel => exact ⟨k + 1, r', F3, _, by omega, by go_num, hR7, hW7, s7, HN.out, g7, o7⟩
        case measure => simp [intOf]; omega
      · have HN := Lib.hid (only_text HO.out)
        have hLb : S.L ≤ 140737488355328 := by rw [HO.out.1, bytesOf_length]; omega
        have K := rtext_any hR5
        have hv : r.txt.size ≤ 140737488355328 := by
          have h1 := Rs.tk_size r r.size
          have h2 := (Rs.size_bd r).2
          have : r.txt.size ≤ (r.tk r.size).size := by unfold Rs.txt; simp [ByteArray.size_extract]
          omega
        generalize r.txt = v at *
        generalize r.aft r.size = r' at *
        go_wp2_with fail
        refine K.mono ?_
        rintro e w6 ⟨rfl, hR6, f6⟩
        have hW6 := hW5.fr f6 (fun e => s1.1 e.symm) (fun i hi e => s1.2.1 (by rw [hi, show i = p1 from e]))
        have g6 := g5.trans f6 (fun k hk e => by omega)
        clear hR5 hW5 g5 f6 K
        go_wp2_with fail
        refine (text_lit hW6 v (.inl hLb) hv).mono ?_
        rintro e w7 ⟨rfl, F3, hW7, m7⟩
        have hR7 : Re w7 p1 r'.s r'.bad := hR6.fr m7.1 (fun e => by rcases e with e | e; exact s1.1 e; exact s1.2.1 e)
        have s7 := s1.mv m7 (Is.lt hR6) (fun _ h => by cases h)
        obtain ⟨g7, o7⟩ := m7.own g6 (by omega) o1
        clear hR6 hW6 g6 m7
        go_wp2
        go_roundw
        case rel => exact ⟨k + 1, r', F3, _, by omega, by go_num, hR7, hW7, s7, HN.out, g7, o7⟩
        case measure => simp [intOf]; omega
    · have hmx : s.size ≤ 140737488355328 := hs
      have e1 := end_any hR1
      have hd := done_any hW1
      by_cases hf : r.fin = 0
      · have hf' : r.fin = 0 := hf
        have hb : r.bad = false ∧ r.s.size = 0 := by
          unfold Rs.fin at hf
          cases hbad : r.bad with
          | true => rw [hbad] at hf; simp at hf
          | false =>
            rw [hbad] at hf
            refine ⟨rfl, ?_⟩
            by_cases h0 : r.s.size = 0
            · exact h0
            · simp [h0] at hf
        obtain ⟨he, hT⟩ := hO.2 hb.1
        have hr0 : bytesOf r.s = [] := List.eq_nil_of_length_eq_zero (by rw [bytesOf_length]; exact hb.2)
        rw [hr0, List.append_nil] at hT
        have hdn : S.done = (bytesOf s, 0) := by simp [Pk.S.done, he, hT]
        have hst : (⟨(bytesOf s).toArray⟩ : ByteArray) = s := bytesOf_inj rfl
        rw [hdn, hst] at hd
        have HF := Lib.hid hf'
        clear hf'
        clear hmx hf hb he hT hr0 hdn hst hO hW hR3 HT g e1
        go_wp2_with fail
        refine hd.mono ?_
        rintro e w5 ⟨rfl, n5, rfl⟩
        have hR2 := hR1.drewN n5
        have g2 := g1.drewN n5
        clear hd hR1 hW1 g1
        generalize wr.drewN n5 = w5 at *
        have e1 := end_any hR2
        rw [HF.out] at e1
        clear hR2
        go_wp2_with fail
        refine e1.mono ?_
        rintro e w6 ⟨rfl, rfl⟩
        go_wp2
        go_ret
        exact ⟨rfl, g2.toBelow0⟩
      · have hb : (r.fin != 0) = true := by simpa using hf
        clear hmx hf hO hW hR3 HT g e1
        go_wp2_with fail
        refine hd.mono ?_
        rintro e w5 ⟨rfl, n5, rfl⟩
        have hR2 := hR1.drewN n5
        have g2 := g1.drewN n5
        clear hd hR1 hW1 g1
        generalize wr.drewN n5 = w5 at *
        have e1 := end_any hR2
        go_wp2_with fail
        refine e1.mono ?_
        rintro e w6 ⟨rfl, rfl⟩
        go_wp2
        go_ret
        exact ⟨rfl, g2.toBelow0⟩
end Go.Proofs.Ytjhggjbfbgfekaa

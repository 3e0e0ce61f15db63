/- The walk of SealExact: sums, frames and bodies are, byte by byte, what the document says, for any parts, any bytes and any place. -/
import Derived.Test.YtcfmgoocaheaiaaRefn
import Derived.Test.YtcfmgoocaheaiaaTurn
namespace Go.Proofs.Ytcfmgoocaheaiaa
open Go.RowKit Crc

theorem head_slice (g n c : Nat) (h : n + 1 ≤ c) (W : World) : (Instr.slice 22 (.slice (some ⟨g, 0, none⟩) (n + 1) c) none (some (.int .i64 (n : Int))) none).run Try.prog W = .ok (.slice (some ⟨g, 0, none⟩) n c) W := by
  have h1 : (n : Int) ≤ (c : Int) := by omega
  go_simp
set_option maxRecDepth 100000 in
set_option maxHeartbeats 4000000 in
theorem exact_walk (A : Option Addr) (c : Nat) (l : List ByteArray) (text : ByteArray) (at_ : Int) (hl : l.length ≤ 1048576) (hs : ∀ x ∈ l, x.size ≤ 1048576) (hT : (jn l).length ≤ 1048576) (ht : text.size ≤ 140737488355328) (w : World) (h : Rd w A (l.map Value.string)) :
    Calls Try.prog 3 #[.slice A l.length c, .string text, .int .i64 at_] w fun e w' => e = .returned (.bool true) ∧ Below w.heap.size w w' := by
  obtain ⟨i0, hi, hz0, hz1, hz2⟩ := info_parts Try.infoB
  obtain ⟨i2, hj, hy0, hy1, hy2⟩ := info_parts Try.infoS
  go_enter Try.func3, Try.ntmps3
  go_wp2_with fail
  refine (lives_any w).mono ?_
  rintro e w1 ⟨rfl, hf1⟩
  have hle1 := hf1.size
  have o0 : (w1.alloc (.cells #[] 9)).ownsRow w.heap.size 9 1 (.slice (some ⟨w1.heap.size, 0, none⟩) 0 0) 0 [] := World.ownsRow_made w1 #[] 0 hle1 (by unfold maxLen; omega) (by simp)
  have f1 := hf1.alloc (.cells #[] 9)
  go_wp2_with (at_builtin; refine wpList_append_rd _ rfl (.tmp 27) (.tmp 28) 22 rfl w.heap.size 9 i2 (.string .empty) 16 Try.underlying22 hj hy0 hy1 hy2 rfl _ 0 [] rfl o0 A c l.length (l.map Value.string) (by simp) rfl (h.fr f1 (fun _ _ => id)) (by intro u hu; obtain ⟨x, _, rfl⟩ := List.mem_map.1 hu; rfl) (by unfold maxLen; omega) (by omega) (by simp; omega) ?_)
  intro v1 w2 hown1 hg1
  have f2 := own_step f1 o0 hg1
  clear o0 f1 hg1 hf1
  have f2s := f2.size
  obtain ⟨A1, c1, rfl, _, _⟩ := own_form hown1
  go_wp2_with (at_builtin; refine wpList_append_rd _ rfl (.tmp 29) (.tmp 30) 22 rfl w.heap.size 9 i2 (.string .empty) 16 Try.underlying22 hj hy0 hy1 hy2 rfl _ l.length (l.map Value.string) rfl (own_fr hown1 ((Fr.refl (fun _ => False) w2).alloc (.cells #[.string ⟨#[115, 112, 97, 114, 101]⟩] 9)) (fun _ _ => id)) _ 1 1 [.string ⟨#[115, 112, 97, 114, 101]⟩] rfl rfl (Rd.one w2 (.string ⟨#[115, 112, 97, 114, 101]⟩) 9) (by intro u hu; simp at hu; subst hu; rfl) (by unfold maxLen; omega) (by omega) (by simp; omega) ?_)
  intro v2 w3 hown2 hg2
  have f3 := own_step (f2.alloc (.cells #[.string ⟨#[115, 112, 97, 114, 101]⟩] 9)) (own_fr hown1 ((Fr.refl (fun _ => False) w2).alloc (.cells #[.string ⟨#[115, 112, 97, 114, 101]⟩] 9)) (fun _ _ => id)) hg2
  clear hown1 hg2 f2 f2s
  obtain ⟨A2, c2, rfl, hc2, hA2⟩ := own_form hown2
  obtain ⟨g2, rfl, hg2⟩ := hA2 (by omega)
  go_wp2_with fail
  go_loopw [8, 34] (fun v8 i wr => ∃ k, k ≤ l.length ∧ i = .int .i64 (k : Nat) ∧ Fr (fun _ => False) w wr ∧ wr.ownsRow w.heap.size 5 1 v8 (jn (l.take k)).length ((jn (l.take k)).map B) ∧ wr.ownsRow w.heap.size 9 1 (.slice (some ⟨g2, 0, none⟩) (l.length + 1) c2) (l.length + 1) (l.map Value.string ++ [.string ⟨#[115, 112, 97, 114, 101]⟩])) (fun _ i _ => l.length - (intOf i).toNat)
  case atStart => exact ⟨0, Nat.zero_le _, rfl, f3, World.ownsRow_nil _ _ _ _, hown2⟩
  case round =>
    obtain ⟨k, hk, rfl, g1, o8, o7⟩ := hrel
    clear hown2 f3
    by_cases hlt : k < l.length
    · obtain ⟨g, o, rfl, hg, hc⟩ := (h.fr g1 (fun _ _ => id)) (by simp; omega)
      have c1 : wr.cell? ⟨g, o + k, none⟩ = some (.string l[k]) := hc k (.string l[k]) (by rw [List.getElem?_map, List.getElem?_eq_getElem hlt]; rfl)
      have hn := jn_take l k hlt
      have hle := jn_le l (k + 1)
      have HN := Lib.hid hn
      have hxs := hs l[k] (List.getElem_mem hlt)
      have hle0 := jn_le l k
      generalize l[k] = x at *
      generalize hM : (jn (l.take k)).length = M at *
      clear hc hn
      go_wp2_with (at_builtin; refine Lib.wpList_append_own_string _ rfl (.tmp 38) (.tmp 39) 24 9 rfl w.heap.size 5 i0 Try.underlying24 Try.underlying9 hi hz0 hz1 hz2 _ M ((jn (l.take k)).map B) rfl o8 x rfl (by unfold maxLen; omega) (by omega) g1.size ?_)
      intro v8' w4 p8 hg8 _
      have p7 := own_kept o8 o7 hg8 (by decide)
      have g4 := own_step g1 o8 hg8
      clear o7 o8 hg8 g1
      go_wp2
      go_roundw
      case rel =>
        refine ⟨k + 1, by omega, by go_num, g4, ?_, p7⟩
        rw [HN.out, List.length_append, bytesOf_length, hM, List.map_append]
        exact p8
      case measure => simp [intOf]; omega
    · have hk' : k = l.length := by omega
      subst hk'
      rw [List.take_length] at o8
      have r7 := own_rd o7
      have hcv := fun (w' : World) (f : Fr (fun _ => False) wr w') => own_text (own_fr o8 f (fun _ _ => id)) Try.underlying24 Try.underlying5 Try.underlying9
      obtain ⟨A8, c8, rfl, _, _⟩ := own_form o8
      have hr8 := r7.at0 l.length (.string ⟨#[115, 112, 97, 114, 101]⟩) (by simp)
      have r7' := Rd.pre r7
      have hb : bytesOf ⟨(jn l).toArray⟩ = jn l := bytesOf_mk _
      have K1 := fun (w' : World) (f : Fr (fun _ => False) wr w') => seal_any (c := c2) (r7'.fr f (fun _ _ => id)) (by omega) (by omega) (by omega)
      have K2 := refseal_any ⟨(jn l).toArray⟩
      have K3 := fun (w' : World) (f : Fr (fun _ => False) wr w') => sum_any (c := c2) (r7'.fr f (fun _ _ => id)) (by omega) (fun x hx => by have := hs x hx; omega)
      have K4 := refsum_any ⟨(jn l).toArray⟩ (by rw [size_of, hb]; omega)
      rw [hb] at K2 K4
      generalize (⟨(jn l).toArray⟩ : ByteArray) = T at *
      generalize ((sum (jn l)).toNat : Int) = S at *
      generalize frameL (jn l) = FL at *
      obtain ⟨fl, fe⟩ := FL
      simp only at K1 K2
      generalize (⟨fl.toArray⟩ : ByteArray) = X at *
      have hcv0 := hcv wr (Fr.refl _ _)
      generalize hM : (jn l).length = M at *
      clear hb o8 o7
      go_wp2_with fail
      refine (K1 wr (Fr.refl _ _)).mono ?_
      clear K1
      rintro e w5 ⟨rfl, f5⟩
      have hcv5 := hcv w5 f5
      go_wp2_with fail
      refine (K2 w5).mono ?_
      clear K2
      rintro e w6 ⟨rfl, f56⟩
      have f6 := f5.trans f56 (fun _ _ h => h)
      have hcv6 := hcv w6 f6
      have hcvN := fun n => hcv (w6.drewN n) (f6.drewN n)
      have k3 : ∀ n, Calls Try.prog 13 #[.slice (some ⟨g2, 0, none⟩) l.length c2] (w6.drewN n) fun e w' => e = .returned (.int .i64 S) ∧ w' = w6.drewN n := fun n => (K3 (w6.drewN n) (f6.drewN n)).mono fun e w' ⟨he, hw⟩ => ⟨he, hw.symm⟩
      have k4 : ∀ n, Calls Try.prog 14 #[.string T] (w6.drewN n) fun e w' => e = .returned (.int .i64 S) ∧ w' = w6.drewN n := fun n => (K4 (w6.drewN n)).mono fun e w' ⟨he, hw⟩ => ⟨he, hw.symm⟩
      have hsl := head_slice g2 l.length c2 hc2
      have j0 : (0 : Int) ≤ (l.length : Int) := by omega
      have j1 : (l.length : Int) < (l.length : Int) + 1 := by omega
      have hr6 : w6.cell? ⟨g2, l.length, none⟩ = some (.string ⟨#[115, 112, 97, 114, 101]⟩) := (r7.fr f6 (fun _ _ => id)).at0 l.length _ (by simp)
      have q1 : (X.toList == X.toList) = true := beq_self_eq_true _
      clear hcv0 hcv5 f5 f56
      go_wp2_with fail
      go_quiet (first | (go_at_call 13; exact Calls.quiet_of_same (k3 _)) | (go_at_call 14; exact Calls.quiet_of_same (k4 _)))
      have f7 := f6.drewN nq
      generalize w6.drewN nq = w7 at *
      have ra := h.fr (g1.trans f7 (fun _ _ h => h)) (fun _ _ => id)
      have ro := r7.fr f7 (fun _ _ => id)
      have gg := g1.trans f7 (fun _ _ h => h)
      clear k3 k4 hsl hr6 hcv hcvN hcv6 K3 K4 f6 f7 r7 r7' hr8
      go_wp2_with fail
      go_loop [85] (fun i => ∃ k, k ≤ l.length ∧ i = .int .i64 (k : Nat)) (fun i => l.length - (intOf i).toNat)
      case atStart => exact ⟨0, Nat.zero_le _, rfl⟩
      case round =>
        obtain ⟨k, hk, rfl⟩ := hrel
        by_cases hlt2 : k < l.length
        · obtain ⟨g, o, rfl, hg, hc⟩ := ra (by simp; omega)
          have c1 : w7.cell? ⟨g, o + k, none⟩ = some (.string l[k]) := hc k (.string l[k]) (by rw [List.getElem?_map, List.getElem?_eq_getElem hlt2]; rfl)
          have c2 : w7.cell? ⟨g2, k, none⟩ = some (.string l[k]) := ro.at0 k (.string l[k]) (by rw [List.getElem?_append_left (by simpa using hlt2), List.getElem?_map, List.getElem?_eq_getElem hlt2]; rfl)
          generalize l[k] = x at *
          have q2 : (x.toList == x.toList) = true := beq_self_eq_true _
          clear hc ra ro
          go_wp2
          go_round
          case rel => exact ⟨k + 1, by omega, by go_num⟩
          case measure => simp [intOf]; omega
        · have L1 := open_any text
          have L2 := refopen_any text ht
          have L3 := next_any text ht at_
          have L4 := refnext_any text ht at_
          generalize openL (bytesOf text) = o at *
          generalize nextL (bytesOf text) at_ = nx at *
          obtain ⟨ol, oe⟩ := o
          obtain ⟨nl, nn, ne⟩ := nx
          simp only at L1 L2 L3 L4
          generalize (⟨ol.toArray⟩ : ByteArray) = OL at *
          generalize (⟨nl.toArray⟩ : ByteArray) = NL at *
          clear ra ro
          go_wp2_with (go_at_call 15; refine (L1 _).mono ?_; clear L1; rintro e w8 ⟨rfl, f8⟩)
          go_wp2_with (go_at_call 16; refine (L2 _).mono ?_; clear L2; rintro e w9 ⟨rfl, f9⟩)
          go_wp2_with (go_at_call 17; refine (L3 _).mono ?_; clear L3; rintro e w10 ⟨rfl, f10⟩)
          go_wp2_with (go_at_call 18; refine (L4 _).mono ?_; clear L4; rintro e w11 ⟨rfl, f11⟩; have q3 : (OL.toList == OL.toList) = true := beq_self_eq_true _; have q4 : (NL.toList == NL.toList) = true := beq_self_eq_true _; have q5 : (oe == oe) = true := beq_self_eq_true _; have q6 : (ne == ne) = true := beq_self_eq_true _; have q7 : (nn == nn) = true := beq_self_eq_true _)
          go_ret
          exact ⟨rfl, ((((gg.trans f8 (fun _ _ h => h)).trans f9 (fun _ _ h => h)).trans f10 (fun _ _ h => h)).trans f11 (fun _ _ h => h)).toBelow0⟩
end Go.Proofs.Ytcfmgoocaheaiaa

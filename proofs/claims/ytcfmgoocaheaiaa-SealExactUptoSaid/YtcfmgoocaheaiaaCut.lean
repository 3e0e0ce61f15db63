/- The walk of SealCut: no beginning of a frame is one, but the whole; with anything behind it it isn't alone, but still found where it begins. -/
import Derived.Test.YtcfmgoocaheaiaaLives
namespace Go.Proofs.Ytcfmgoocaheaiaa
open Go.RowKit Crc

theorem is_two (w : World) (o : Obj) (t : TypeId) (cs : Array Value) : Is ((w.alloc o).alloc (.cells cs t)) (w.heap.size + 1) t cs := by
  have h := Is.new (w.alloc o) t cs
  have e : (w.alloc o).heap.size = w.heap.size + 1 := by simp
  rw [e] at h
  exact h
theorem rd_is {w : World} {b : Nat} {l : List ByteArray} (h : Is w b 9 (l.map Value.string).toArray) : Rd w (some ⟨b, 0, none⟩) (l.map Value.string) := fun _ =>
  ⟨b, 0, rfl, h.lt, fun j u hu => by
    rw [Nat.zero_add, h.cell]
    simpa using hu⟩

theorem piece_head (s : ByteArray) (a : Nat) (h : a ≤ s.size) (W : World) : (Instr.slice 9 (.string s) none (some (.int .i64 (a : Int))) none).run Try.prog W = .ok (.string (s.extract 0 a)) W := by
  have k := run_slice_string_h (P := Try.prog) (w := W) 9 s Try.underlying9 .i64 (a : Int) (by omega) (by omega)
  rw [k, Int.toNat_natCast]
theorem umod (a : Int) (m : Nat) (h0 : 0 < m) (h : m ≤ 4611686018427387904) : ∃ n : Nat, wrap64 ((IntKind.u64.wrap a).tmod (m : Int)) = n ∧ n < m := by
  have hw : 0 ≤ IntKind.u64.wrap a := by rw [IntKind.wrap_u64]; omega
  rw [Int.tmod_eq_emod_of_nonneg hw]
  have h1 := Int.emod_nonneg (IntKind.u64.wrap a) (b := (m : Int)) (by omega)
  have h2 := Int.emod_lt_of_pos (IntKind.u64.wrap a) (b := (m : Int)) (by omega)
  generalize IntKind.u64.wrap a % (m : Int) = x at *
  rw [IntWalk.wrap64_in _ ⟨by omega, by omega⟩]
  exact ⟨x.toNat, by omega, by omega⟩
theorem frameL_long {x : ByteArray} (h : 1024 < x.size) : frameL (bytesOf x) = ([], 2) := by unfold frameL; rw [if_pos (by rw [bytesOf_length]; exact h)]
theorem frameL_ok {x : ByteArray} (h : ¬ 1024 < x.size) : frameL (bytesOf x) = (frame (bytesOf x), 0) := by unfold frameL; rw [if_neg (by rw [bytesOf_length]; exact h)]
theorem frame_size (x : ByteArray) : (⟨(frame (bytesOf x)).toArray⟩ : ByteArray).size = x.size + 6 := by rw [size_of, bytesOf_mk (frame (bytesOf x)), frame_length, bytesOf_length]

set_option maxRecDepth 100000 in
set_option maxHeartbeats 800000 in
theorem cut_walk (body : ByteArray) (cut : Int) (more : ByteArray) (hb : body.size ≤ 140737488351232) (hm : more.size ≤ 140737488351232) (w : World) :
    Calls Try.prog 7 #[.string body, .int .i64 cut, .string more] w fun e w' => e = .returned (.bool true) ∧ Below w.heap.size w w' := by
  have KL := lives_any w
  have K1 := seal_one body (by omega)
  by_cases hl : 1024 < body.size
  · rw [frameL_long hl] at K1
    go_enter Try.func7, Try.ntmps7
    go_wp2_with (first | (go_at_call 10; refine KL.mono ?_; rintro e w1 ⟨rfl, hf1⟩) | (go_at_call 11; refine (K1 _).mono ?_; rintro e w2 ⟨rfl, hf2⟩))
    go_ret
    exact ⟨rfl, (hf1.trans hf2 (fun _ _ h => h)).toBelow0⟩
  · rw [frameL_ok hl] at K1
    have hz := frame_size body
    have hbl : (bytesOf body).length ≤ 1024 := by rw [bytesOf_length]; omega
    obtain ⟨n, hn, hnl⟩ := umod cut (body.size + 6) (by omega) (by omega)
    rw [show ((body.size + 6 : Nat) : Int) = (body.size : Int) + 6 from by omega] at hn
    have K2 := open_any ((⟨(frame (bytesOf body)).toArray⟩ : ByteArray).extract 0 n)
    rw [bytesOf_extract, List.drop_zero, bytesOf_mk (frame (bytesOf body)), open_cut (bytesOf body) hbl n (by rw [bytesOf_length]; exact hnl)] at K2
    have K3 := next_any ((⟨(frame (bytesOf body)).toArray⟩ : ByteArray) ++ more) (by rw [ByteArray.size_append, hz]; omega) 0
    have K4 := open_any ((⟨(frame (bytesOf body)).toArray⟩ : ByteArray) ++ more)
    rw [bytesOf_append, bytesOf_mk (frame (bytesOf body))] at K3 K4
    have hN : nextL (frame (bytesOf body) ++ bytesOf more) 0 = (bytesOf body, (body.size : Int) + 6, 0) := by
      unfold nextL
      rw [if_neg (by omega)]
      show ((headL (frame (bytesOf body) ++ bytesOf more)).1, _, (headL (frame (bytesOf body) ++ bytesOf more)).2.2) = _
      show (_, (if (headL (frame (bytesOf body) ++ bytesOf more)).2.2 = 0 then (0 : Int) + ((headL (frame (bytesOf body) ++ bytesOf more)).2.1 : Nat) else 0), _) = _
      rw [head_frame (bytesOf body) _ hbl, bytesOf_length]
      simp
    rw [hN] at K3
    simp only at K1 K2 K3
    rw [mk_bytesOf body] at K3
    by_cases hm0 : more.size = 0
    · have em : more = ⟨#[]⟩ := by
        apply ByteArray.ext
        exact Array.eq_empty_of_size_eq_zero hm0
      subst em
      rw [bytesOf_empty, List.append_nil, open_frame (bytesOf body) hbl] at K4
      clear hN
      generalize (⟨(frame (bytesOf body)).toArray⟩ : ByteArray) = F at *
      go_enter Try.func7, Try.ntmps7
      go_wp2_with (go_at_call 10; refine KL.mono ?_; clear KL; rintro e w1 ⟨rfl, hf1⟩)
      go_wp2_with (go_at_call 11; refine (K1 w1).mono ?_; clear K1; rintro e w2 ⟨rfl, hf2⟩)
      go_wp2_with (go_at_call 15; refine (K2 w2).mono ?_; clear K2; rintro e w3 ⟨rfl, hf3⟩)
      go_wp2_with (go_at_call 17; refine (K3 w3).mono ?_; clear K3; rintro e w4 ⟨rfl, hf4⟩; have q1 : (body.toList == body.toList) = true := beq_self_eq_true _)
      go_wp2_with (go_at_call 15; refine (K4 w4).mono ?_; clear K4; rintro e w5 ⟨rfl, hf5⟩)
      go_ret
      exact ⟨rfl, ((((hf1.trans hf2 (fun _ _ h => h)).trans hf3 (fun _ _ h => h)).trans hf4 (fun _ _ h => h)).trans hf5 (fun _ _ h => h)).toBelow0⟩
    · have hme : bytesOf more ≠ [] := fun h => hm0 (by rw [size_of, h]; rfl)
      rw [open_more (bytesOf body) _ hbl hme] at K4
      have q2 := toList_some hm0
      have q3 : more.toList.isEmpty = false := by simpa using q2
      clear hN hme
      generalize (⟨(frame (bytesOf body)).toArray⟩ : ByteArray) = F at *
      go_enter Try.func7, Try.ntmps7
      go_wp2_with (go_at_call 10; refine KL.mono ?_; clear KL; rintro e w1 ⟨rfl, hf1⟩)
      go_wp2_with (go_at_call 11; refine (K1 w1).mono ?_; clear K1; rintro e w2 ⟨rfl, hf2⟩)
      go_wp2_with (go_at_call 15; refine (K2 w2).mono ?_; clear K2; rintro e w3 ⟨rfl, hf3⟩)
      go_wp2_with (go_at_call 17; refine (K3 w3).mono ?_; clear K3; rintro e w4 ⟨rfl, hf4⟩; have q1 : (body.toList == body.toList) = true := beq_self_eq_true _)
      go_wp2_with (go_at_call 15; refine (K4 w4).mono ?_; clear K4; rintro e w5 ⟨rfl, hf5⟩)
      go_ret
      exact ⟨rfl, ((((hf1.trans hf2 (fun _ _ h => h)).trans hf3 (fun _ _ h => h)).trans hf4 (fun _ _ h => h)).trans hf5 (fun _ _ h => h)).toBelow0⟩
end Go.Proofs.Ytcfmgoocaheaiaa

/- The contract of the journal's Append. -/
import Derived.Test.YtdoljggaoidljaaGreatAppj
import Derived.Deep.RegionWith
namespace Go.Proofs.YtdoljggaoidljaaGreat
open Go.RowKit

theorem append_kind {w : World} (p : Value) (k : Int) (x : ByteArray) (hk : k ≠ 1 ∧ k ≠ 2) :
    Calls Tryz.prog 10 #[p, .int .i64 k, .string x] w fun e w' => e = .returned (.int .i64 27) ∧ Fr (fun _ => False) w w' := by
  obtain ⟨h1, h2⟩ := hk
  have q1 : (k != 1) = true := by simpa using h1
  have q2 : (k != 2) = true := by simpa using h2
  clear h1 h2
  go_enter Tryz.func10, Tryz.ntmps10
  go_wp2
  go_ret
  exact ⟨rfl, Fr.refl _ _⟩
theorem append_long {w : World} (p : Value) (k : Int) (x : ByteArray) (hk : k = 1 ∨ k = 2) (hx : 1000 < x.size) :
    Calls Tryz.prog 10 #[p, .int .i64 k, .string x] w fun e w' => e = .returned (.int .i64 2) ∧ Fr (fun _ => False) w w' := by
  have d1 : decide ((1000 : Int) < (x.size : Int)) = true := decide_eq_true (by omega)
  rcases hk with rfl | rfl
  all_goals
    go_enter Tryz.func10, Tryz.ntmps10
    go_wp2
    go_ret
    exact ⟨rfl, Fr.refl _ _⟩
set_option maxRecDepth 10000 in
set_option maxHeartbeats 8000000 in
theorem append_any {w : World} {jb mb : Nat} {r : Option Nat} {j : Jm} (h : JM w jb mb r j) (hd : j.m.down = false) (hs : Jok 0 j) (k : Int) (x : ByteArray) (hk : k = 1 ∨ k = 2) (hx : x.size ≤ 1000) :
    Calls Tryz.prog 10 #[.pointer (some ⟨jb, 0, none⟩), .int .i64 k, .string x] w fun e w' =>
      ((j.put ⟨k, bytesOf x⟩).1 = 0 ∧ e = .returned (.int .i64 0) ∧ JM w' jb mb r (j.put ⟨k, bytesOf x⟩).2 ∧ JF w w' jb mb r) ∨
      ((j.put ⟨k, bytesOf x⟩).1 ≠ 0 ∧ e = .returned (.int .i64 14) ∧ Mem w' mb r (j.put ⟨k, bytesOf x⟩).2.m ∧ (∃ o nth first next stop, Jb w' jb o mb nth first next stop true) ∧ JF w w' jb mb r) := by
  have KD := fun (W : World) (hW : JM W jb mb r j) => downj_any hW.jr hW.mem
  rw [hd] at KD
  have KC := fun (W : World) => Se.sclone_any x W (by omega)
  have KP := fun (W : World) (hW : JM W jb mb r j) => put_any hW hs j.next k x hk hx
  obtain ⟨ep, hep⟩ : ∃ ep, ep = (j.put ⟨k, bytesOf x⟩).1 := ⟨_, rfl⟩
  obtain ⟨jp, hjp⟩ : ∃ jp, jp = (j.put ⟨k, bytesOf x⟩).2 := ⟨_, rfl⟩
  rw [← hep, ← hjp] at KP ⊢
  have d1 : decide ((1000 : Int) < (x.size : Int)) = false := decide_eq_false (by omega)
  have h0 := h.fr (Fr.refl (fun _ => False) w).drew
  have HH0 := Lib.hid h0
  have c5 : w.drew.cell? ⟨jb, 5, none⟩ = some (.int .i64 (j.next : Int)) := h0.jr.cell 5
  have f0 := (Fr.refl (fun _ => False) w).drew
  have HF0 := Lib.hid f0
  have KD0 := KD _ h0
  have hq1 : ((ep : Int) != 0) = true ∨ ep = 0 := by
    by_cases h : ep = 0
    · exact .inr h
    · exact .inl (by simpa using h)
  clear hep hjp h hs hd h0 f0 KD
  rcases hk with rfl | rfl
  all_goals
    rcases hq1 with q1 | rfl
    · go_enter Tryz.func10, Tryz.ntmps10
      go_wp2_with fail
      go_region_with (first | (go_at_call 22; refine KD0.mono ?_; rintro e w1 ⟨rfl, F1⟩; have HH1 := Lib.hid (HH0.out.fr F1); have HF1 := Lib.hid (HF0.out.trans F1 fun _ _ h => h); have c5 : w1.cell? ⟨jb, 5, none⟩ = some (.int .i64 (j.next : Int)) := HH1.out.jr.cell 5; clear F1) | (go_at_call 24; refine (KC _).mono ?_; rintro e w2 ⟨rfl, F2⟩; have HH2 := Lib.hid (HH1.out.fr F2); have HF2 := Lib.hid (HF1.out.trans F2 fun _ _ h => h); have c5 : w2.cell? ⟨jb, 5, none⟩ = some (.int .i64 (j.next : Int)) := HH2.out.jr.cell 5; clear F2) | (go_at_call 23; refine (KP _ HH2.out).mono ?_; rintro e w3 ⟨rfl, M3, F3⟩))
      all_goals
        have d7 : w3.cell? ⟨jb, 7, none⟩ = some (.bool false) := M3.jr.cell 7
        have df : w3.frozen? ⟨jb, 7, none⟩ = false := M3.jr.frozen 7
        have hlt := M3.jr.lt
        have HM3 := Lib.hid M3
        have HF3 := Lib.hid ((HF2.out.mono (S' := fun i => Foot mb r i ∨ i = jb) fun _ _ h => h.elim).trans F3 fun _ _ h => h)
        clear M3 F3
        go_wp2_with fail
        go_ret
        have F4 : Fr (fun i => i = jb) w3 (w3.setCell ⟨jb, 7, none⟩ (.bool true)) := (Fr.refl (fun i => i = jb) w3).setCell (p := ⟨jb, 7, none⟩) (.inl rfl) _
        exact .inr ⟨by simpa using q1, rfl, HM3.out.mem.fr F4 (fun e => HM3.out.off (.inl e.symm)) (fun i hi e => HM3.out.off (.inr (by rw [hi, e]))), ⟨_, _, _, _, _, HM3.out.jr.set 7 _⟩, HF3.out.trans F4 fun _ _ h => .inr h⟩
    · go_enter Tryz.func10, Tryz.ntmps10
      go_wp2_with fail
      go_region_with (first | (go_at_call 22; refine KD0.mono ?_; rintro e w1 ⟨rfl, F1⟩; have HH1 := Lib.hid (HH0.out.fr F1); have HF1 := Lib.hid (HF0.out.trans F1 fun _ _ h => h); have c5 : w1.cell? ⟨jb, 5, none⟩ = some (.int .i64 (j.next : Int)) := HH1.out.jr.cell 5; clear F1) | (go_at_call 24; refine (KC _).mono ?_; rintro e w2 ⟨rfl, F2⟩; have HH2 := Lib.hid (HH1.out.fr F2); have HF2 := Lib.hid (HF1.out.trans F2 fun _ _ h => h); have c5 : w2.cell? ⟨jb, 5, none⟩ = some (.int .i64 (j.next : Int)) := HH2.out.jr.cell 5; clear F2) | (go_at_call 23; refine (KP _ HH2.out).mono ?_; rintro e w3 ⟨rfl, M3, F3⟩))
      all_goals
        go_wp2_with fail
        go_ret
        exact .inl ⟨by first | rfl | trivial, by first | rfl | trivial, M3, (HF2.out.mono (S' := fun i => Foot mb r i ∨ i = jb) fun _ _ h => h.elim).trans F3 fun _ _ h => h⟩
end Go.Proofs.YtdoljggaoidljaaGreat

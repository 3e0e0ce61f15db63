/- MoverSafe: its plain mathematics (what holds of the thing and the mover between cycles), and the contract of arrives. -/
import Derived.Test.YtbjbkaphigolnaaMv
namespace Go.Proofs.Ytbjbkaphigolnaa.Mv
open Go.RowKit

/-- the thing: where it stands, where to, the newest command that arrived -/
structure Th where
  pos : Int
  to : Int
  st : Int
/-- a command arrives -/
def Th.arr (x : Th) (stamp cmd : Int) : Th := if stamp ≤ x.st ∨ cmd = 0 then x else if cmd = x.to then ⟨x.pos, x.to, stamp⟩ else ⟨0, cmd, stamp⟩
def Th.ar (x : Th) : Array Value := #[.int .i64 x.pos, .int .i64 x.to, .int .i64 x.st]
def Tg (w : World) (b : Nat) (x : Th) : Prop := Is w b 53 x.ar
theorem tg_cells {w : World} {b : Nat} {x : Th} (h : Tg w b x) : w.cell? ⟨b, 0, none⟩ = some (.int .i64 x.pos) ∧ w.cell? ⟨b, 1, none⟩ = some (.int .i64 x.to) ∧ w.cell? ⟨b, 2, none⟩ = some (.int .i64 x.st) :=
  ⟨Is.cell h 0, Is.cell h 1, Is.cell h 2⟩
theorem tg_frozen {w : World} {b : Nat} {x : Th} (h : Tg w b x) : w.frozen? ⟨b, 0, none⟩ = false ∧ w.frozen? ⟨b, 1, none⟩ = false ∧ w.frozen? ⟨b, 2, none⟩ = false :=
  ⟨Is.frozen h 0, Is.frozen h 1, Is.frozen h 2⟩

theorem arrives_any {w : World} {b : Nat} {x : Th} (h : Tg w b x) (stamp cmd : Int) :
    Calls Try.prog 19 #[.pointer (some ⟨b, 0, none⟩), .int .i64 stamp, .int .i64 cmd] w fun e w' => e = .returned (.tuple #[]) ∧ Tg w' b (x.arr stamp cmd) ∧ Fr (fun k => k = b) w w' := by
  obtain ⟨c0, c1, c2⟩ := tg_cells h
  obtain ⟨z0, z1, z2⟩ := tg_frozen h
  have HA : Hid (x.arr stamp cmd = if stamp ≤ x.st ∨ cmd = 0 then x else if cmd = x.to then ⟨x.pos, x.to, stamp⟩ else ⟨0, cmd, stamp⟩) := Lib.hid rfl
  obtain ⟨p, t, s⟩ := x
  simp only at c0 c1 c2 HA
  generalize Th.arr _ stamp cmd = y at *
  by_cases h0 : stamp ≤ s
  · have d0 : decide (stamp ≤ s) = true := decide_eq_true h0
    have HF := Lib.hid (show Tg w b y ∧ Fr (fun k => k = b) w w from ⟨by rw [HA.out, if_pos (.inl h0)]; exact h, Fr.refl _ _⟩)
    clear h HA
    go_enter Try.func19, Try.ntmps19
    go_wp2_with fail
    refine bodyPost_ret (results_none rfl _ _ _) rfl ?_
    exact ⟨rfl, HF.out.1, HF.out.2⟩
  · have d0 : decide (stamp ≤ s) = false := decide_eq_false h0
    by_cases h1 : cmd = 0
    · have HF := Lib.hid (show Tg w b y ∧ Fr (fun k => k = b) w w from ⟨by rw [HA.out, if_pos (.inr h1)]; exact h, Fr.refl _ _⟩)
      subst h1
      clear h HA
      go_enter Try.func19, Try.ntmps19
      go_wp2_with fail
      refine bodyPost_ret (results_none rfl _ _ _) rfl ?_
      exact ⟨rfl, HF.out.1, HF.out.2⟩
    · have d1 : (cmd == 0) = false := by simpa using h1
      by_cases h2 : cmd = t
      · subst h2
        have i2 : Tg (w.setCell ⟨b, 2, none⟩ (.int .i64 stamp)) b ⟨p, cmd, stamp⟩ := by
          have := Is.set h 2 (.int .i64 stamp)
          simpa [Th.ar, Tg] using this
        have HF := Lib.hid (show Tg (w.setCell ⟨b, 2, none⟩ (.int .i64 stamp)) b y ∧ Fr (fun k => k = b) w (w.setCell ⟨b, 2, none⟩ (.int .i64 stamp)) from ⟨by rw [HA.out, if_neg (by omega), if_pos rfl]; exact i2, (Fr.refl (fun k => k = b) w).setCell (p := ⟨b, 2, none⟩) (.inl rfl) _⟩)
        clear h HA h0 h1 i2
        go_enter Try.func19, Try.ntmps19
        go_wp2_with fail
        refine bodyPost_end (results_none rfl _ _ _) rfl ?_
        exact ⟨rfl, HF.out.1, HF.out.2⟩
      · have d2 : (cmd == t) = false := by simpa using h2
        have i2 : Tg (((w.setCell ⟨b, 2, none⟩ (.int .i64 stamp)).setCell ⟨b, 1, none⟩ (.int .i64 cmd)).setCell ⟨b, 0, none⟩ (.int .i64 0)) b ⟨0, cmd, stamp⟩ := by
          have := ((Is.set h 2 (.int .i64 stamp)).set 1 (.int .i64 cmd)).set 0 (.int .i64 0)
          simpa [Th.ar, Tg] using this
        have HF := Lib.hid (show Tg _ b y ∧ Fr (fun k => k = b) w (((w.setCell ⟨b, 2, none⟩ (.int .i64 stamp)).setCell ⟨b, 1, none⟩ (.int .i64 cmd)).setCell ⟨b, 0, none⟩ (.int .i64 0)) from ⟨by rw [HA.out, if_neg (by omega), if_neg h2]; exact i2, (((Fr.refl (fun k => k = b) w).setCell (p := ⟨b, 2, none⟩) (.inl rfl) _).setCell (p := ⟨b, 1, none⟩) (.inl rfl) _).setCell (p := ⟨b, 0, none⟩) (.inl rfl) _⟩)
        clear h HA h0 h1 h2 i2
        go_enter Try.func19, Try.ntmps19
        go_wp2_with fail
        refine bodyPost_end (results_none rfl _ _ _) rfl ?_
        exact ⟨rfl, HF.out.1, HF.out.2⟩

/-- What holds: n commands were given; what proved, was looked at ahead of b. -/
structure Inv (n b A : Nat) (x : Th) (mc mo : Int) (cs : List Int) (pr : Bool) : Prop where
  t0 : x.to ≠ 0
  ps : x.pos = 0 ∨ x.pos = x.to
  m0 : -1 ≤ mo
  m1 : mo < n
  len : cs.length = n
  cmd : ∀ i : Nat, i < n → mo ≤ i → cs[i]? = some mc
  prv : pr = true → x.pos = mc ∧ x.pos ≠ 0 ∧ mo + A < b

theorem Inv.start (A : Nat) (f : Int) (hf : f ≠ 0) : Inv 0 0 A ⟨f, f, -1⟩ 0 (-1) [] false :=
  ⟨hf, .inr rfl, by omega, by omega, rfl, fun i hi => by omega, fun h => by cases h⟩
/-- the thing as it stands, when it has come to an end of its move -/
def Th.stand (x : Th) (q : Bool) : Th := if q then ⟨x.to, x.to, x.st⟩ else x
theorem Inv.stand {n b A : Nat} {x : Th} {mc mo : Int} {cs : List Int} {pr : Bool} (h : Inv n b A x mc mo cs pr) (q : Bool) : Inv n b A (x.stand q) mc mo cs pr := by
  cases q with
  | false => exact h
  | true =>
    refine ⟨h.t0, .inr rfl, h.m0, h.m1, h.len, h.cmd, fun e => ?_⟩
    obtain ⟨a, c, d⟩ := h.prv e
    have := h.ps
    exact ⟨by show x.to = mc; rcases this with k | k <;> omega, h.t0, d⟩
theorem Inv.prove {n A : Nat} {x : Th} {mc mo : Int} {cs : List Int} {pr : Bool} (h : Inv n n A x mc mo cs pr) (hn : (n : Int) ≤ 4611686018427387904) (hA : A ≤ 7) (hp : pv mc mo x.pos n true A = true) : mc = x.pos ∧ Inv n n A x mc mo cs true := by
  unfold pv at hp
  have := h.m1
  have := h.m0
  rw [wz_in _ (by omega) (by omega), wz_in _ (by omega) (by omega), wz_in _ (by omega) (by omega)] at hp
  simp only [Bool.true_and, Bool.and_eq_true, bne_iff_ne, beq_iff_eq, decide_eq_true_eq] at hp
  obtain ⟨a, c, d⟩ := hp
  exact ⟨c, h.t0, h.ps, h.m0, h.m1, h.len, h.cmd, fun _ => ⟨c.symm, by omega, by omega⟩⟩
theorem Inv.same {n A : Nat} {x : Th} {mc mo : Int} {cs : List Int} {pr : Bool} (h : Inv n n A x mc mo cs pr) : Inv (n + 1) n A x mc mo (cs ++ [mc]) pr := by
  refine ⟨h.t0, h.ps, h.m0, by have := h.m1; omega, by rw [List.length_append, h.len]; rfl, fun i hi hm => ?_, h.prv⟩
  by_cases e : i < n
  · rw [List.getElem?_append_left (by rw [h.len]; exact e)]
    exact h.cmd i e hm
  · have : i = n := by omega
    rw [List.getElem?_append_right (by rw [h.len]; omega), h.len, this]
    simp
theorem Inv.turn {n A : Nat} {x : Th} {mc mo : Int} {cs : List Int} {pr : Bool} (h : Inv n n A x mc mo cs pr) (cmd : Int) : Inv (n + 1) n A x cmd (n : Int) (cs ++ [cmd]) false := by
  refine ⟨h.t0, h.ps, by omega, by omega, by rw [List.length_append, h.len]; rfl, fun i hi hm => ?_, fun h => by cases h⟩
  have : i = n := by omega
  rw [List.getElem?_append_right (by rw [h.len]; omega), h.len, this]
  simp
theorem Inv.arr {n A d : Nat} {x : Th} {mc mo c : Int} {cs : List Int} {pr : Bool} (h : Inv (n + 1) n A x mc mo cs pr) (hd : d ≤ A) (hn : d ≤ n) (hc : cs[n - d]? = some c) (st : Int) : Inv (n + 1) n A (x.arr st c) mc mo cs pr := by
  unfold Th.arr
  split
  · exact h
  · rename_i h0
    split
    · exact ⟨h.t0, h.ps, h.m0, h.m1, h.len, h.cmd, h.prv⟩
    · rename_i h1
      refine ⟨by show c ≠ 0; omega, .inl rfl, h.m0, h.m1, h.len, h.cmd, fun e => ?_⟩
      obtain ⟨a, b, f⟩ := h.prv e
      have g := h.cmd (n - d) (by omega) (by omega)
      rw [hc] at g
      injection g with g
      have := h.ps
      exact absurd (show c = x.to by rcases this with k | k <;> omega) h1
theorem Inv.next {n A : Nat} {x : Th} {mc mo : Int} {cs : List Int} {pr : Bool} (h : Inv (n + 1) n A x mc mo cs pr) : Inv (n + 1) (n + 1) A x mc mo cs pr :=
  ⟨h.t0, h.ps, h.m0, h.m1, h.len, h.cmd, fun e => by obtain ⟨a, b, c⟩ := h.prv e; exact ⟨a, b, by omega⟩⟩
end Go.Proofs.Ytbjbkaphigolnaa.Mv

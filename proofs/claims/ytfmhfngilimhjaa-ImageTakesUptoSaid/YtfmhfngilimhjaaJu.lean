/- The document's image: how it is turned. -/
import Derived.Test.YtfmhfngilimhjaaJnewp
namespace Go.Proofs.Ytfmhfngilimhjaa.Im
open Go.RowKit Li

theorem own_cells {w : World} {z size n : Nat} {e : TypeId} {v : Value} {xs : List Value} (h : w.ownsRow z e size v n xs) (h0 : 0 < n) : ∃ g c cur, v = .slice (some ⟨g, 0, none⟩) n c ∧ z ≤ g ∧ Is w g e cur ∧ n * size ≤ cur.size ∧ ∀ (j : Nat) u, xs[j]? = some u → cur[j]? = some u := by
  rcases h.2 with ⟨_, k⟩ | ⟨g, cap, cur, hv, hb, hg, hnc, hm, hs, ht⟩
  · omega
  · refine ⟨g, cap, cur, hv, hb, hg, by rw [hs]; exact Nat.mul_le_mul_right _ hnc, fun j u hu => ?_⟩
    have k : (cur.toList.take (n * size))[j]? = some u := by rw [ht]; exact hu
    rw [List.getElem?_take] at k
    split at k
    · simpa using k
    · cases k
theorem Bl.jm {w : World} {z b : Nat} {C : Te.Cf} {vR vS vZ : Value} {rbs : List Nat} (h : Bl w z b C vR vS vZ rbs 4 4) (h4 : rbs.length = 4) : ∃ (p : Jp) (ks : List Kr), p.b = b ∧ Jm w z 0 p C ks ∧ (∀ j (hj : j < ks.length), ks[j].m = ⟨R.new (j : Nat) C.t.age, Te.nilSta.st, -1⟩) ∧ ∀ k ∈ ks, k.s = Te.nilSta := by
  have hR := h.oR
  rw [h4] at hR
  obtain ⟨gR, cR, c1, hv1, hz1, i1, l1, k1⟩ := own_cells hR (by decide)
  obtain ⟨gS, cS, c2, hv2, hz2, i2, l2, k2⟩ := own_cells h.oS (by decide)
  obtain ⟨gZ, cZ, c3, hv3, hz3, i3, l3, k3⟩ := own_cells h.oZ (by decide)
  subst hv1 hv2 hv3
  let mk : Nat → Kr := fun j => ⟨rbs.getD j 0, .slice none 0 0, R.new (j : Nat) C.t.age, Te.nilSta, -1⟩
  have hks : ∀ j (hj : j < ((List.range 4).map mk).length), ((List.range 4).map mk)[j] = mk j := fun j hj => by simp
  have hln : ((List.range 4).map mk).length = 4 := by simp
  have hmem : ∀ k ∈ (List.range 4).map mk, ∃ j, j < 4 ∧ k = mk j := fun k hk => by
    obtain ⟨j, hj, rfl⟩ := List.mem_map.1 hk
    exact ⟨j, List.mem_range.1 hj, rfl⟩
  have hrb : ∀ j (hj : j < 4), rbs.getD j 0 = rbs[j]'(by omega) := fun j hj => by
    rw [List.getD_eq_getElem?_getD, List.getElem?_eq_getElem (by omega)]
    rfl
  have hmx : ∀ j (hj : j < 4), z ≤ rbs.getD j 0 ∧ Mx w z (rbs.getD j 0) 0 (.slice none 0 0) (R.new (j : Int) C.t.age) := fun j hj => by
    rw [hrb j hj]
    exact h.mx j (by omega)
  refine ⟨⟨b, gR, cR, gS, cS, gZ, cZ⟩, (List.range 4).map mk, rfl, ⟨h.is, hln, ⟨c1, i1, fun j hj => ?_⟩, ⟨c2, i2, by omega, fun j hj i hi => ?_⟩, ⟨c3, i3, by omega, fun j hj => ?_⟩, fun k hk => ?_, fun k hk => ?_, fun k hk => ?_, fun k hk => ?_, fun k hk => ?_, fun i j hi hj hne => ?_, fun k hk => ?_, ⟨h.hz, hz1, hz2, hz3⟩⟩, fun j hj => ?_, fun k hk => ?_⟩
  · rw [hks j hj]
    rw [hln] at hj
    apply k1
    rw [List.getElem?_map, List.getElem?_eq_getElem (by omega), ← hrb j hj]
    rfl
  · rw [hks j hj]
    rw [hln] at hj
    apply (k2 _ _ _).trans
    · exact (show some (Value.slice none 0 0) = (mk j).s.cells[i]? from by
        have : i = 0 ∨ i = 1 ∨ i = 2 ∨ i = 3 := by omega
        rcases this with rfl | rfl | rfl | rfl <;> rfl)
    · unfold nils
      rw [List.getElem?_replicate, if_pos (by omega)]
  · rw [hks j hj]
    rw [hln] at hj
    apply k3
    rw [List.getElem?_replicate, if_pos (by omega)]
  · obtain ⟨j, hj, rfl⟩ := hmem k hk
    exact (hmx j hj).2
  · obtain ⟨j, hj, rfl⟩ := hmem k hk
    exact (hmx j hj).1
  · obtain ⟨j, hj, rfl⟩ := hmem k hk
    exact Te.nilSta_ok _
  · obtain ⟨j, hj, rfl⟩ := hmem k hk
    exact Te.nilSta_off _
  · obtain ⟨j, hj, rfl⟩ := hmem k hk
    exact Te.nilSta_off _
  · rw [hks i hi, hks j hj]
    rw [hln] at hi hj
    refine ⟨?_, fun q hq => by cases hq⟩
    show rbs.getD i 0 ≠ rbs.getD j 0
    rw [hrb i hi, hrb j hj]
    intro e
    exact hne ((List.getElem_inj h.nd).1 e)
  · obtain ⟨j, hj, rfl⟩ := hmem k hk
    intro e
    cases e
  · rw [hks j hj]
    rfl
  · obtain ⟨j, hj, rfl⟩ := hmem k hk
    rfl
theorem getElem_set_cases {α : Type} {l : List α} {j i : Nat} {x : α} (hi : i < (l.set j x).length) : (i = j ∧ (l.set j x)[i] = x) ∨ (i ≠ j ∧ ∃ h : i < l.length, (l.set j x)[i] = l[i]) := by
  by_cases e : i = j
  · subst e
    exact .inl ⟨rfl, List.getElem_set_self _⟩
  · have h : i < l.length := by rw [List.length_set] at hi; exact hi
    exact .inr ⟨e, h, List.getElem_set_ne (Ne.symm e) _⟩
section
variable {w w1 : World} {base n : Nat} {p : Jp} {C : Te.Cf} {ks : List Kr} {j : Nat}
/-- a telegram came to the j-th receiver -/
theorem Jm.turn (h : Jm w base n p C ks) (hj : j < ks.length) {v' : Value} {r' : R} (f : Fr (fun k => k = ks[j].rb ∨ ks[j].v.ownBlock = some k) w w1) (hm : Mx w1 base ks[j].rb (n + 1) v' r') (hv : ∀ k, v'.ownBlock = some k → ks[j].v.ownBlock = some k ∨ w.heap.size ≤ k) :
    Jm w1 base (n + 1) p C (ks.set j { ks[j] with v := v', r := r' }) := by
  have hmj := List.getElem_mem hj
  have hmem : ∀ k ∈ ks.set j { ks[j] with v := v', r := r' }, k ∈ ks ∨ k = { ks[j] with v := v', r := r' } := fun k hk => List.mem_or_eq_of_mem_set hk
  obtain ⟨ns, e1, e2, e3, e4⟩ := h.mx _ hmj
  have ft : ∀ {c : Nat} {t : TypeId} {cs : Array Value}, Is w c t cs → 106 ≠ t → 3 ≠ t → Is w1 c t cs := fun hc h1 h2 => hc.fr f fun e => by
    rcases e with e | e
    · exact Te.isne e3 hc h1 e.symm
    · exact wide_is_ne e4 hc h2 e
  obtain ⟨c1, i1, l1⟩ := h.rr
  obtain ⟨c2, i2, s2, l2⟩ := h.ss
  obtain ⟨c3, i3, s3, l3⟩ := h.zz
  have hjf : ∀ q, (q = ks[j].rb ∨ ks[j].v.ownBlock = some q) → Jf p ks q := fun q hq => .inr (.inr ⟨_, hmj, hq⟩)
  have hnewf : ∀ q, Jf p (ks.set j { ks[j] with v := v', r := r' }) q → Jf p ks q ∨ w.heap.size ≤ q := fun q hq => by
    rcases hq with hq | hq | ⟨k, hk, hq⟩
    · exact .inl (.inl hq)
    · exact .inl (.inr (.inl hq))
    · rcases hmem k hk with hk | rfl
      · exact .inl (.inr (.inr ⟨k, hk, hq⟩))
      · rcases hq with hq | hq
        · exact .inl (.inr (.inr ⟨_, hmj, .inl hq⟩))
        · rcases hv q hq with hq | hq
          · exact .inl (.inr (.inr ⟨_, hmj, .inr hq⟩))
          · exact .inr hq
  have soff : ∀ k ∈ ks, k.s.Off (Jf p (ks.set j { ks[j] with v := v', r := r' })) := fun k hk => ((h.far k hk).or ((h.sok k hk).off_new (S := fun q => w.heap.size ≤ q) fun _ hq => hq)).mono hnewf
  have z3 : Is w1 p.gZ 3 c3 := i3.fr f fun e => by
    rcases e with e | e
    · exact Te.isne e3 i3 (by decide) e.symm
    · exact h.nz _ hmj e
  refine ⟨ft h.is (by decide) (by decide), by rw [List.length_set]; exact h.h4, ⟨c1, ft i1 (by decide) (by decide), fun i hi => ?_⟩, ⟨c2, ft i2 (by decide) (by decide), s2, fun i hi a ha => ?_⟩, ⟨c3, z3, s3, fun i hi => ?_⟩, fun k hk => ?_, fun k hk => ?_, fun k hk => ?_, fun k hk => ?_, fun k hk => ?_, fun a b ha hb hne => ?_, fun k hk => ?_, h.lo⟩
  · rcases getElem_set_cases hi with ⟨rfl, e⟩ | ⟨_, h', e⟩ <;> rw [e]
    · exact l1 i hj
    · exact l1 i h'
  · rcases getElem_set_cases hi with ⟨rfl, e⟩ | ⟨_, h', e⟩ <;> rw [e]
    · exact l2 i hj a ha
    · exact l2 i h' a ha
  · rcases getElem_set_cases hi with ⟨rfl, e⟩ | ⟨_, h', e⟩ <;> rw [e]
    · exact l3 i hj
    · exact l3 i h'
  · obtain ⟨i, hi, rfl⟩ := List.getElem_of_mem hk
    rcases getElem_set_cases hi with ⟨rfl, e⟩ | ⟨hne, h', e⟩ <;> rw [e]
    · exact hm
    · have hd := h.nd i j h' hj hne
      exact ((h.mx _ (List.getElem_mem h')).fr f (fun c => by
        rcases c with c | c
        · exact hd.1 c
        · obtain ⟨_, _, _, q3, _⟩ := h.mx _ (List.getElem_mem h')
          exact wide_is_ne e4 q3 (by decide) c) fun q hq c => by
        rcases c with c | c
        · obtain ⟨_, _, _, _, q4⟩ := h.mx _ (List.getElem_mem h')
          exact wide_is_ne q4 e3 (by decide) (c ▸ hq)
        · exact hd.2 q hq c).mono (Nat.le_succ n)
  · rcases hmem k hk with hk | rfl
    · exact h.rb k hk
    · exact h.rb ks[j] hmj
  · rcases hmem k hk with hk | rfl
    · exact (h.sok k hk).off f ((h.far k hk).mono hjf)
    · exact (h.sok ks[j] hmj).off f ((h.far ks[j] hmj).mono hjf)
  · rcases hmem k hk with hk | rfl
    · exact soff k hk
    · exact soff ks[j] hmj
  · rcases hmem k hk with hk | rfl
    · exact h.new k hk
    · exact h.new ks[j] hmj
  · have lt : ∀ i (hi : i < ks.length) q, ks[i].v.ownBlock = some q → q < w.heap.size := fun i hi q hq => ((h.mx _ (List.getElem_mem hi)).lt.2 q hq).2
    rcases getElem_set_cases ha with ⟨ea, e⟩ | ⟨na, ha', e⟩ <;> rcases getElem_set_cases hb with ⟨eb, e'⟩ | ⟨nb, hb', e'⟩ <;> rw [e, e']
    · omega
    · have hd := h.nd j b hj hb' (by omega)
      refine ⟨hd.1, fun q hq hc => ?_⟩
      rcases hv q hq with k | k
      · exact hd.2 q k hc
      · have := lt b hb' q hc
        omega
    · have hd := h.nd a j ha' hj (by omega)
      refine ⟨hd.1, fun q hq hc => ?_⟩
      rcases hv q hc with k | k
      · exact hd.2 q hq k
      · have := lt a ha' q hq
        omega
    · exact h.nd a b ha' hb' hne
  · rcases hmem k hk with hk | rfl
    · exact h.nz k hk
    · intro e
      rcases hv _ e with k | k
      · exact h.nz _ hmj k
      · have := i3.lt
        omega
theorem Jf.turn (hj : j < ks.length) {v' : Value} {r' : R} {s : Te.Sta} {z : Int} {m : Nat} (hv : ∀ k, v'.ownBlock = some k → ks[j].v.ownBlock = some k ∨ m ≤ k) {q : Nat} (hq : Jf p (ks.set j ⟨ks[j].rb, v', r', s, z⟩) q) : Jf p ks q ∨ m ≤ q := by
  rcases hq with hq | hq | ⟨k, hk, hq⟩
  · exact .inl (.inl hq)
  · exact .inl (.inr (.inl hq))
  · rcases List.mem_or_eq_of_mem_set hk with hk | rfl
    · exact .inl (.inr (.inr ⟨k, hk, hq⟩))
    · rcases hq with hq | hq
      · exact .inl (.inr (.inr ⟨_, List.getElem_mem hj, .inl hq⟩))
      · rcases hv q hq with hq | hq
        · exact .inl (.inr (.inr ⟨_, List.getElem_mem hj, .inr hq⟩))
        · exact .inr hq
theorem ne_ss (h : Jm w base n p C ks) {c : Nat} {t : TypeId} {cs : Array Value} (hc : Is w c t cs) (ht : 65 ≠ t) : c ≠ p.gS := by
  obtain ⟨c2, i2, _, _⟩ := h.ss
  exact fun e => Te.isne i2 hc ht e.symm
/-- what the j-th controller said is kept -/
theorem Jm.said1 (h : Jm w base n p C ks) (hj : j < ks.length) {x : Te.Sta} (hx : x.Ok w) (hxf : x.Off (Jf p ks)) (hxn : x.Off fun q => q < base) :
    Jm ((((w.setCell ⟨p.gS, j * 4, none⟩ (.slice x.occ.A x.occ.l.length x.occ.c)).setCell ⟨p.gS, j * 4 + 1, none⟩ (.slice x.pos.A x.pos.l.length x.pos.c)).setCell ⟨p.gS, j * 4 + 1 + 1, none⟩ (.slice x.shut.A x.shut.l.length x.shut.c)).setCell ⟨p.gS, j * 4 + 1 + 1 + 1, none⟩ (.slice x.lamp.A x.lamp.l.length x.lamp.c)) base n p C (ks.set j { ks[j] with s := x }) ∧
    Fr (fun q => q = p.gS) w ((((w.setCell ⟨p.gS, j * 4, none⟩ (.slice x.occ.A x.occ.l.length x.occ.c)).setCell ⟨p.gS, j * 4 + 1, none⟩ (.slice x.pos.A x.pos.l.length x.pos.c)).setCell ⟨p.gS, j * 4 + 1 + 1, none⟩ (.slice x.shut.A x.shut.l.length x.shut.c)).setCell ⟨p.gS, j * 4 + 1 + 1 + 1, none⟩ (.slice x.lamp.A x.lamp.l.length x.lamp.c)) := by
  have hmj := List.getElem_mem hj
  have hmem : ∀ k ∈ ks.set j { ks[j] with s := x }, k ∈ ks ∨ k = { ks[j] with s := x } := fun k hk => List.mem_or_eq_of_mem_set hk
  obtain ⟨c1, i1, l1⟩ := h.rr
  obtain ⟨c2, i2, s2, l2⟩ := h.ss
  obtain ⟨c3, i3, s3, l3⟩ := h.zz
  have h4 := h.h4
  have f : Fr (fun q => q = p.gS) w (w.setCells p.gS (j * 4) x.cells) := (Fr.refl (fun q => q = p.gS) w).setCells x.cells (j * 4) (.inl rfl)
  have k2 : Is (w.setCells p.gS (j * 4) x.cells) p.gS 65 (splice c2 (j * 4) x.cells) := Is.setCells x.cells (j * 4) w c2 i2
  have hcl : x.cells.length = 4 := rfl
  have ne : ∀ {c : Nat} {t : TypeId} {cs : Array Value}, Is w c t cs → 65 ≠ t → Is (w.setCells p.gS (j * 4) x.cells) c t cs := fun hc ht => hc.fr f fun e => Te.isne i2 hc ht e.symm
  have soff : ∀ k ∈ ks, k.s.Off fun q => q = p.gS := fun k hk => (h.far k hk).mono fun q hq => .inl hq
  have hjf : ∀ q, Jf p (ks.set j { ks[j] with s := x }) q → Jf p ks q := fun q hq => by
    rcases hq with hq | hq | ⟨k, hk, hq⟩
    · exact .inl hq
    · exact .inr (.inl hq)
    · rcases hmem k hk with hk | rfl
      · exact .inr (.inr ⟨k, hk, hq⟩)
      · exact .inr (.inr ⟨_, hmj, hq⟩)
  have hmx : ∀ k ∈ ks, Mx (w.setCells p.gS (j * 4) x.cells) base k.rb n k.v k.r := fun k hk => (h.mx k hk).fr f (fun e => by
    obtain ⟨_, _, _, q3, _⟩ := h.mx k hk
    exact Te.isne i2 q3 (by decide) e.symm) fun q hq e => by
    obtain ⟨_, _, _, _, q4⟩ := h.mx k hk
    exact wide_is_ne q4 i2 (by decide) (e ▸ hq)
  refine ⟨⟨ne h.is (by decide), by rw [List.length_set]; exact h4, ⟨c1, ne i1 (by decide), fun i hi => ?_⟩, ⟨_, k2, by rw [splice_size]; exact s2, fun i hi a ha => ?_⟩, ⟨c3, ne i3 (by decide), s3, fun i hi => ?_⟩, fun k hk => ?_, fun k hk => ?_, fun k hk => ?_, fun k hk => ?_, fun k hk => ?_, fun a b ha hb hne => ?_, fun k hk => ?_, h.lo⟩, f⟩
  · rcases getElem_set_cases hi with ⟨rfl, e⟩ | ⟨_, h', e⟩ <;> rw [e]
    · exact l1 i hj
    · exact l1 i h'
  · have hi4 : i < 4 := by rw [List.length_set] at hi; omega
    rw [splice_at _ _ _ _ (by rw [hcl]; omega), hcl]
    rcases getElem_set_cases hi with ⟨rfl, e⟩ | ⟨hne, h', e⟩ <;> rw [e]
    · rw [if_pos (by omega), show i * 4 + a - i * 4 = a by omega]
    · rw [if_neg (by omega)]
      exact l2 i h' a ha
  · rcases getElem_set_cases hi with ⟨rfl, e⟩ | ⟨_, h', e⟩ <;> rw [e]
    · exact l3 i hj
    · exact l3 i h'
  · rcases hmem k hk with hk | rfl
    · exact hmx k hk
    · exact hmx ks[j] hmj
  · rcases hmem k hk with hk | rfl
    · exact h.rb k hk
    · exact h.rb ks[j] hmj
  · rcases hmem k hk with hk | rfl
    · exact (h.sok k hk).off f (soff k hk)
    · exact hx.off f (hxf.mono fun q hq => .inl hq)
  · rcases hmem k hk with hk | rfl
    · exact (h.far k hk).mono hjf
    · exact hxf.mono hjf
  · rcases hmem k hk with hk | rfl
    · exact h.new k hk
    · exact hxn
  · rcases getElem_set_cases ha with ⟨rfl, e⟩ | ⟨na, ha', e⟩ <;> rcases getElem_set_cases hb with ⟨rfl, e'⟩ | ⟨nb, hb', e'⟩
    · exact absurd rfl hne
    · rw [e, e']
      exact h.nd a b hj hb' hne
    · rw [e, e']
      exact h.nd a b ha' hj hne
    · rw [e, e']
      exact h.nd a b ha' hb' hne
  · rcases hmem k hk with hk | rfl
    · exact h.nz k hk
    · exact h.nz ks[j] hmj
theorem Jm.stamp (h : Jm w base n p C ks) (hj : j < ks.length) (z : Int) :
    Jm (w.setCell ⟨p.gZ, j, none⟩ (.int .i64 z)) base n p C (ks.set j { ks[j] with z := z }) ∧ Fr (fun q => q = p.gZ) w (w.setCell ⟨p.gZ, j, none⟩ (.int .i64 z)) := by
  have hmj := List.getElem_mem hj
  have hmem : ∀ k ∈ ks.set j { ks[j] with z := z }, k ∈ ks ∨ k = { ks[j] with z := z } := fun k hk => List.mem_or_eq_of_mem_set hk
  obtain ⟨c1, i1, l1⟩ := h.rr
  obtain ⟨c2, i2, s2, l2⟩ := h.ss
  obtain ⟨c3, i3, s3, l3⟩ := h.zz
  have h4 := h.h4
  have f : Fr (fun q => q = p.gZ) w (w.setCell ⟨p.gZ, j, none⟩ (.int .i64 z)) := (Fr.refl (fun q => q = p.gZ) w).setCell (p := ⟨p.gZ, j, none⟩) (.inl rfl) _
  have k3 := i3.set j (.int .i64 z)
  have ne : ∀ {c : Nat} {t : TypeId} {cs : Array Value}, Is w c t cs → 3 ≠ t → Is (w.setCell ⟨p.gZ, j, none⟩ (.int .i64 z)) c t cs := fun hc ht => hc.fr f fun e => Te.isne i3 hc ht e.symm
  have soff : ∀ k ∈ ks, k.s.Off fun q => q = p.gZ := fun k hk => (h.far k hk).mono fun q hq => .inr (.inl hq)
  have hjf : ∀ q, Jf p (ks.set j { ks[j] with z := z }) q → Jf p ks q := fun q hq => by
    rcases hq with hq | hq | ⟨k, hk, hq⟩
    · exact .inl hq
    · exact .inr (.inl hq)
    · rcases hmem k hk with hk | rfl
      · exact .inr (.inr ⟨k, hk, hq⟩)
      · exact .inr (.inr ⟨_, hmj, hq⟩)
  have hmx : ∀ k ∈ ks, Mx (w.setCell ⟨p.gZ, j, none⟩ (.int .i64 z)) base k.rb n k.v k.r := fun k hk => (h.mx k hk).fr f (fun e => by
    obtain ⟨_, _, _, q3, _⟩ := h.mx k hk
    exact Te.isne i3 q3 (by decide) e.symm) fun q hq e => h.nz k hk (e ▸ hq)
  refine ⟨⟨ne h.is (by decide), by rw [List.length_set]; exact h4, ⟨c1, ne i1 (by decide), fun i hi => ?_⟩, ⟨c2, ne i2 (by decide), s2, fun i hi a ha => ?_⟩, ⟨_, k3, by simpa using s3, fun i hi => ?_⟩, fun k hk => ?_, fun k hk => ?_, fun k hk => ?_, fun k hk => ?_, fun k hk => ?_, fun a b ha hb hne => ?_, fun k hk => ?_, h.lo⟩, f⟩
  · rcases getElem_set_cases hi with ⟨rfl, e⟩ | ⟨_, h', e⟩ <;> rw [e]
    · exact l1 i hj
    · exact l1 i h'
  · rcases getElem_set_cases hi with ⟨rfl, e⟩ | ⟨_, h', e⟩ <;> rw [e]
    · exact l2 i hj a ha
    · exact l2 i h' a ha
  · have hi4 : i < 4 := by rw [List.length_set] at hi; omega
    rw [Array.getElem?_setIfInBounds]
    rcases getElem_set_cases hi with ⟨rfl, e⟩ | ⟨hne, h', e⟩ <;> rw [e]
    · rw [if_pos rfl, if_pos (by omega)]
    · rw [if_neg (fun c => hne c.symm)]
      exact l3 i h'
  · rcases hmem k hk with hk | rfl
    · exact hmx k hk
    · exact hmx ks[j] hmj
  · rcases hmem k hk with hk | rfl
    · exact h.rb k hk
    · exact h.rb ks[j] hmj
  · rcases hmem k hk with hk | rfl
    · exact (h.sok k hk).off f (soff k hk)
    · exact (h.sok ks[j] hmj).off f (soff ks[j] hmj)
  · rcases hmem k hk with hk | rfl
    · exact (h.far k hk).mono hjf
    · exact (h.far ks[j] hmj).mono hjf
  · rcases hmem k hk with hk | rfl
    · exact h.new k hk
    · exact h.new ks[j] hmj
  · rcases getElem_set_cases ha with ⟨rfl, e⟩ | ⟨na, ha', e⟩ <;> rcases getElem_set_cases hb with ⟨rfl, e'⟩ | ⟨nb, hb', e'⟩
    · exact absurd rfl hne
    · rw [e, e']
      exact h.nd a b hj hb' hne
    · rw [e, e']
      exact h.nd a b ha' hj hne
    · rw [e, e']
      exact h.nd a b ha' hb' hne
  · rcases hmem k hk with hk | rfl
    · exact h.nz k hk
    · exact h.nz ks[j] hmj
end
end Go.Proofs.Ytfmhfngilimhjaa.Im

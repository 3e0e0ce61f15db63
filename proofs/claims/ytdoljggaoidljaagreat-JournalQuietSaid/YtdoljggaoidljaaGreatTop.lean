import Derived.Test.YtdoljggaoidljaaGreatAppj
import Derived.Test.YtdoljggaoidljaaGreatApnd
import Derived.Test.YtdoljggaoidljaaGreatNew
import Derived.Test.YtdoljggaoidljaaGreatAgain
/- Plain: what the machine of plain data leaves on the pages of a journal, wherever the power goes. Nothing here speaks of the program. -/
namespace Go.Proofs.YtdoljggaoidljaaGreat
open Go.RowKit

theorem hit_none {m : Mm} (h : m.hit = false) (n : Nat) : m.part n = n := by
  unfold Mm.hit at h
  unfold Mm.part
  cases e : m.cut (m.acts - m.armed) with
  | none => rfl
  | some x => rw [e] at h; exact absurd h (by simp)
theorem hit_some {m : Mm} (h : m.hit = true) : ∃ i, m.cut i ≠ none := by
  unfold Mm.hit at h
  exact ⟨_, fun e => by rw [e] at h; exact absurd h (by simp)⟩
/-- an act of burning, on a bare place of the page where it stands -/
theorem burn_up {j : Jm} (hd : j.m.down = false) (t : List UInt8) (hs : j.stop + t.length ≤ 4096) (hb : ∀ i, j.stop ≤ i → i < j.stop + t.length → j.m.pg (j.nth % 24) i = 255) :
    ∃ d, d ≤ t.length ∧ (j.m.hit = false → d = t.length) ∧ j.burn t = (if j.m.hit = true then 14 else 0, { j with m := { j.m.act with pg := layP j.m.pg (j.nth % 24) j.stop (t.take d) }, stop := if j.m.hit = true then j.stop else j.stop + t.length }) := by
  have e0 : j.m.spotE j.page j.stop t.length = 0 := by
    unfold Mm.spotE Jm.page
    rw [if_neg (by rw [hd]; simp), if_neg (by omega), if_neg (by omega)]
  have e1 : j.m.burnt j.page j.stop t.length = 0 := by
    unfold Mm.burnt Jm.page
    rw [Int.toNat_natCast, Int.toNat_natCast]
    exact (bareN_zero _ _).2 fun i hi => hb _ (by omega) (by omega)
  have e2 : j.m.burnE j.page j.stop t = if j.m.hit = true then 14 else 0 := by
    unfold Mm.burnE
    rw [if_pos e0, if_pos e1]
    rfl
  have e3 : j.m.burnM j.page j.stop t = { j.m.act with pg := layP j.m.pg (j.nth % 24) j.stop (t.take (j.m.part t.length)) } := by
    unfold Mm.burnM
    rw [if_pos ⟨e0, e1⟩]
    unfold Jm.page
    rw [Int.toNat_natCast, Int.toNat_natCast]
  refine ⟨_, part_le j.m _, fun h => hit_none h _, ?_⟩
  unfold Jm.burn
  rw [e2, e3]
  cases j.m.hit <;> rfl
/-- an act of erasing the page where it stands -/
theorem erase_up {j : Jm} (hd : j.m.down = false) :
    ∃ d, d ≤ 4096 ∧ (j.m.hit = false → d = 4096) ∧ j.m.eraseE j.page = (if j.m.hit = true then 14 else 0) ∧ j.m.eraseM j.page = { j.m.act with pg := layP j.m.pg (j.nth % 24) 0 (List.replicate d 255), worn := fun q => if q = j.nth % 24 then j.m.worn q + 1 else j.m.worn q } := by
  have e0 : j.m.spotE j.page 0 4096 = 0 := by
    unfold Mm.spotE Jm.page
    rw [if_neg (by rw [hd]; simp), if_neg (by omega), if_neg (by omega)]
  refine ⟨_, part_le j.m _, fun h => hit_none h _, ?_, ?_⟩
  · unfold Mm.eraseE
    rw [if_pos e0]
    rfl
  · unfold Mm.eraseM
    rw [if_pos e0]
    unfold Jm.page
    rw [Int.toNat_natCast]

/-- a journal that is up, and what lies on its pages -/
structure Con (j : Jm) (all : List Jo.Rc) (c : Nat) (L : Nat → Jo.Sh) : Prop where
  st : Jo.St j.m.pg all c L
  nth : j.nth = c - 1
  first : j.first = firstOf c L
  next : j.next = all.length + 1
  stop : j.stop = stopOf c L
  o : j.o = Jo.lastSafe none all
  up : j.m.down = false
  oks : ∀ r ∈ all, r.ok
/-- it went down: what lies on the pages then -/
def Fell (j j' : Jm) (all : List Jo.Rc) : Prop := j'.m.down = true ∧ (∃ i, j.m.cut i ≠ none) ∧ ∃ c L, Jo.St j'.m.pg all c L
theorem lastSafe_len : ∀ (l : List Jo.Rc) (o : Option (List UInt8)), (∀ r ∈ l, r.ok) → (o.getD []).length ≤ 1000 → ((Jo.lastSafe o l).getD []).length ≤ 1000
  | [], o, _, h => h
  | r :: l, o, hl, h => by
    refine lastSafe_len l _ (fun q hq => hl q (List.mem_cons_of_mem _ hq)) ?_
    show ((if r.kind = 1 then some r.text else o).getD []).length ≤ 1000
    split
    · exact (hl r List.mem_cons_self).text
    · exact h
/-- a record is burnt where there is room for it -/
theorem Con.addj {j : Jm} {all : List Jo.Rc} {c : Nat} {L : Nat → Jo.Sh} (h : Con j all c L) (hc : 0 < c) (hp : Jo.PageOf (j.m.pg ((c - 1) % 24)) (L (c - 1)) []) {r : Jo.Rc} (hr : r.ok) (hl : (L (c - 1)).body.length + (Jo.fram (Jo.recB r)).length ≤ 4096) :
    (j.m.hit = false ∧ (j.addj r).1 = 0 ∧ (∃ K, Con (j.addj r).2 (all ++ [r]) c K) ∧ (j.addj r).2.m.cut = j.m.cut ∧ (j.addj r).2.m.armed = j.m.armed) ∨ ((j.addj r).1 ≠ 0 ∧ (Fell j (j.addj r).2 all ∨ Fell j (j.addj r).2 (all ++ [r]))) := by
  have hs : j.stop = (L (c - 1)).body.length := by rw [h.stop]; unfold stopOf; rw [if_neg (by omega)]
  have hn : j.nth % 24 = (c - 1) % 24 := by rw [h.nth]
  have hbare : ∀ i, j.stop ≤ i → i < j.stop + (Jo.fram (Jo.recB r)).length → j.m.pg (j.nth % 24) i = 255 := by
    intro i h1 h2
    rw [hn, hp.at' i (by omega), List.append_nil, List.getD_eq_getElem?_getD, List.getElem?_eq_none (by omega)]
    rfl
  obtain ⟨d, hd, hd2, hb⟩ := burn_up h.up (Jo.fram (Jo.recB r)) (by omega) hbare
  have key := h.st.burn hc hp hr hl hd
  rw [← hs, ← hn] at key
  have hoks : ∀ q ∈ all ++ [r], q.ok := fun q hq => by
    rcases List.mem_append.1 hq with k | k
    · exact h.oks q k
    · simp only [List.mem_cons, List.not_mem_nil, or_false] at k
      exact k ▸ hr
  cases hh : j.m.hit
  · rw [hh] at hb
    have ha : j.addj r = (0, { (j.burn (Jo.fram (Jo.recB r))).2 with next := j.next + 1, o := Jo.lastSafe j.o [r] }) := by
      unfold Jm.addj
      rw [if_pos (by rw [hb]; rfl)]
    rw [hb] at ha
    rcases key with ⟨_, K, k1, k2, _⟩ | ⟨k, _⟩
    · refine .inl ⟨rfl, by rw [ha], ⟨K, ?_⟩, by rw [ha]; rfl, by rw [ha]; rfl⟩
      rw [ha]
      refine ⟨k1, h.nth, ?_, ?_, ?_, ?_, hh, hoks⟩
      · show j.first = _
        rw [h.first]
        unfold firstOf
        rw [if_neg (by omega), if_neg (by omega), k2]
        rfl
      · show j.next + 1 = _
        rw [h.next, List.length_append]
        rfl
      · show j.stop + _ = _
        unfold stopOf
        rw [if_neg (by omega), k2, Jo.Sh.add_body, List.length_append, hs]
      · show Jo.lastSafe j.o [r] = _
        rw [h.o, ← Jo.lastSafe_append]
    · exact absurd (hd2 hh) (by omega)
  · rw [hh] at hb
    have ha : j.addj r = j.burn (Jo.fram (Jo.recB r)) := by
      unfold Jm.addj
      rw [if_neg (by rw [hb]; exact (by decide : (14 : Nat) ≠ 0))]
    rw [hb] at ha
    refine .inr ⟨by rw [ha]; exact (by decide : (14 : Nat) ≠ 0), ?_⟩
    rw [ha]
    rcases key with ⟨_, K, k1, _, _⟩ | ⟨_, k⟩
    · exact .inr ⟨hh, hit_some hh, _, _, k1⟩
    · exact .inl ⟨hh, hit_some hh, _, _, k⟩
/-- a head is burnt on a bare page -/
theorem head_up {j : Jm} {all : List Jo.Rc} {c : Nat} {L : Nat → Jo.Sh} (hup : j.m.down = false) (hn : j.nth = c) (hf : j.first = all.length + 1) (hx : j.next = all.length + 1) (hst : j.stop = 0) (ho : j.o = Jo.lastSafe none all) (hoks : ∀ r ∈ all, r.ok) (hal : all.length ≤ 2147483000) (hcl : c ≤ all.length)
    (hbare : ∀ i, i < 4096 → j.m.pg (c % 24) i = 255) (hc : c = 0 ∨ (L (c - 1)).recs ≠ [])
    (hS : ∀ pg', Jo.Garb (pg' (c % 24)) → (∀ q, q ≠ c % 24 → pg' q = j.m.pg q) → Jo.St pg' all c L) :
    (j.m.hit = false ∧ (j.burn j.head).1 = 0 ∧ (∃ K, Con (j.burn j.head).2 all (c + 1) K ∧ Jo.PageOf ((j.burn j.head).2.m.pg (c % 24)) (K c) [] ∧ (K c).body.length ≤ 1016) ∧ (j.burn j.head).2.m.cut = j.m.cut ∧ (j.burn j.head).2.m.armed = j.m.armed) ∨ ((j.burn j.head).1 ≠ 0 ∧ Fell j (j.burn j.head).2 all) := by
  have hol : (j.o.getD []).length ≤ 1000 := by rw [ho]; exact lastSafe_len all none hoks (by decide)
  obtain ⟨s, hs⟩ : ∃ s : Jo.Sh, s = ⟨c, all.length + 1, j.o, []⟩ := ⟨_, rfl⟩
  have hsok : s.ok := by
    rw [hs]
    refine ⟨?_, ?_, ?_, ?_⟩
    · show c ≤ _
      omega
    · show 1 ≤ all.length + 1 ∧ all.length + 1 ≤ 2147483647
      omega
    · intro t ht
      have e : j.o = some t := ht
      rw [e] at hol
      exact hol
    · intro r hr
      exact absurd hr (by simp)
  have hhd : j.head = Jo.fram (Jo.headB s.nth s.first s.safe) := by
    unfold Jm.head
    rw [hn, hf, hs]
  have hlen : j.head.length ≤ 1016 := by
    unfold Jm.head
    rw [Jo.fram_length, Jo.headB_length]
    omega
  have hsr : s.recs = [] := by rw [hs]
  have hbody : s.body = j.head := by
    unfold Jo.Sh.body
    rw [hsr, Jo.recsB_nil, List.append_nil, hhd]
  obtain ⟨d, hd, hd2, hb⟩ := burn_up hup j.head (by omega) (fun i _ hi => by rw [hn]; exact hbare i (by omega))
  rw [hn, hst] at hb
  have key := Jo.head_burn (f := j.m.pg (c % 24)) hbare hsok hsr (d := d) (by rw [← hhd]; exact hd)
  rw [← hhd] at key
  rw [← Jo.layP_same j.m.pg (c % 24) 0] at key
  have other : ∀ q, q ≠ c % 24 → layP j.m.pg (c % 24) 0 (j.head.take d) q = j.m.pg q := fun q hq => Jo.layP_other _ hq _ _
  have h00 : Jo.St j.m.pg all c L := hS _ (Jo.garb_bare (hbare 0 (by decide))) fun _ _ => rfl
  cases hh : j.m.hit
  · rw [hh] at hb
    rcases key with ⟨_, k1⟩ | ⟨k, _⟩
    · have h1 := h00.head hc (s := s) (by rw [hs]) (by rw [hs]) (by rw [hs]; exact ho) hsr k1 other
      refine .inl ⟨rfl, by rw [hb]; rfl, ⟨fun i => if i = c then s else L i, ?_, ?_, ?_⟩, by rw [hb]; rfl, by rw [hb]; rfl⟩
      · rw [hb]
        refine ⟨h1, rfl, ?_, hx, ?_, ho, hh, hoks⟩
        · show j.first = _
          unfold firstOf
          rw [if_neg (by omega), hf, show c + 1 - 1 = c by omega]
          dsimp only
          rw [if_pos rfl, hs]
        · show (if false = true then 0 else 0 + j.head.length) = _
          unfold stopOf
          rw [if_neg (by decide), if_neg (by omega), show c + 1 - 1 = c by omega]
          dsimp only
          rw [if_pos rfl, hbody]
          omega
      · rw [hb]
        dsimp only
        rw [if_pos rfl]
        exact k1
      · dsimp only
        rw [if_pos rfl, hbody]
        exact hlen
    · exact absurd (hd2 hh) (by omega)
  · rw [hh] at hb
    refine .inr ⟨by rw [hb]; exact (by decide : (14 : Nat) ≠ 0), ?_⟩
    rw [hb]
    refine ⟨hh, hit_some hh, ?_⟩
    rcases key with ⟨_, k1⟩ | ⟨_, k1⟩
    · exact ⟨_, _, h00.head hc (s := s) (by rw [hs]) (by rw [hs]) (by rw [hs]; exact ho) hsr k1 other⟩
    · exact ⟨_, _, hS _ k1 other⟩
/-- another sheet is begun -/
theorem Con.turn {j : Jm} {all : List Jo.Rc} {c : Nat} {L : Nat → Jo.Sh} (h : Con j all c L) (hal : all.length ≤ 2147483000) :
    ((j.turn).1 = 0 ∧ (∃ c' K, 0 < c' ∧ Con j.turn.2 all c' K ∧ Jo.PageOf (j.turn.2.m.pg ((c' - 1) % 24)) (K (c' - 1)) [] ∧ (K (c' - 1)).body.length ≤ 1016) ∧ j.turn.2.m.cut = j.m.cut ∧ j.turn.2.m.armed = j.m.armed) ∨ (j.turn.1 ≠ 0 ∧ Fell j j.turn.2 all) := by
  have hcnt := h.st.count
  obtain ⟨x, hx1, hx2, hx3, hx4, hx5⟩ : ∃ x, j.turn0.nth = x ∧ j.turn0.first = all.length + 1 ∧ x ≤ all.length ∧ (x = 0 ∨ (L (x - 1)).recs ≠ []) ∧ (∀ pg', Jo.Garb (pg' (x % 24)) → (∀ q, q ≠ x % 24 → pg' q = j.m.pg q) → Jo.St pg' all x L) := by
    rcases Nat.eq_zero_or_pos c with rfl | hc
    · have hnil : all = [] := h.st.all
      have hf : j.first = 1 := h.first
      have hn : j.next = 1 := by rw [h.next, hnil]; rfl
      refine ⟨0, ?_, ?_, Nat.zero_le _, .inl rfl, fun pg' h1 h2 => h.st.next_garb (.inl rfl) h1 h2⟩
      · show (if j.first < j.next then j.nth + 1 else j.nth) = 0
        rw [if_neg (by omega), h.nth]
      · show (if j.first < j.next then j.next else j.first) = _
        rw [if_neg (by omega), hf, hnil]
        rfl
    · have hal2 := h.st.all_last hc
      have hf : j.first = (Jo.upto L (c - 1)).length + 1 := by
        rw [h.first]
        unfold firstOf
        rw [if_neg (by omega), h.st.first _ (by omega)]
      have hlen : all.length = (Jo.upto L (c - 1)).length + (L (c - 1)).recs.length := by rw [← List.length_append, ← hal2]
      by_cases hr : (L (c - 1)).recs = []
      · rw [hr, List.length_nil] at hlen
        obtain ⟨n, rfl⟩ : ∃ n, c = n + 1 := ⟨c - 1, by omega⟩
        rw [show n + 1 - 1 = n by omega] at hf hr hlen
        refine ⟨n, ?_, ?_, by omega, ?_, fun pg' h1 h2 => h.st.drop_garb hr h1 h2⟩
        · show (if j.first < j.next then j.nth + 1 else j.nth) = n
          rw [if_neg (by rw [h.next]; omega), h.nth]
          omega
        · show (if j.first < j.next then j.next else j.first) = _
          rw [if_neg (by rw [h.next]; omega)]
          omega
        · rcases Nat.eq_zero_or_pos n with e | e
          · exact .inl e
          · exact .inr (h.st.some' _ (by omega))
      · have hpos := List.length_pos_iff.2 hr
        have hle : c ≤ all.length := by
          have := Jo.upto_len L (c - 1) fun i hi => h.st.some' i (by omega)
          omega
        refine ⟨c, ?_, ?_, hle, .inr hr, fun pg' h1 h2 => h.st.next_garb (.inr hr) h1 h2⟩
        · show (if j.first < j.next then j.nth + 1 else j.nth) = c
          rw [if_pos (by rw [h.next]; omega), h.nth]
          omega
        · show (if j.first < j.next then j.next else j.first) = _
          rw [if_pos (by rw [h.next]; omega), h.next]
  have hm : j.turn0.m = j.m := rfl
  have ho : j.turn0.o = j.o := rfl
  have hnx : j.turn0.next = j.next := rfl
  have hz : j.turn0.stop = 0 := rfl
  have hfell : ∀ y, Fell j.turn0 y all → Fell j y all := fun y h => h
  show ((j.turn0.turn1).1 = 0 ∧ (∃ c' K, 0 < c' ∧ Con j.turn0.turn1.2 all c' K ∧ Jo.PageOf (j.turn0.turn1.2.m.pg ((c' - 1) % 24)) (K (c' - 1)) [] ∧ (K (c' - 1)).body.length ≤ 1016) ∧ j.turn0.turn1.2.m.cut = j.m.cut ∧ j.turn0.turn1.2.m.armed = j.m.armed) ∨ (j.turn0.turn1.1 ≠ 0 ∧ Fell j j.turn0.turn1.2 all)
  rw [← hm] at hx5 ⊢
  have hup : j.turn0.m.down = false := h.up
  have hst : ∃ c L, Jo.St j.turn0.m.pg all c L := ⟨_, _, h.st⟩
  have hnx' : j.turn0.next = all.length + 1 := hnx.trans h.next
  have ho' : j.turn0.o = Jo.lastSafe none all := ho.trans h.o
  suffices hg : ((j.turn0.turn1).1 = 0 ∧ (∃ c' K, 0 < c' ∧ Con j.turn0.turn1.2 all c' K ∧ Jo.PageOf (j.turn0.turn1.2.m.pg ((c' - 1) % 24)) (K (c' - 1)) [] ∧ (K (c' - 1)).body.length ≤ 1016) ∧ j.turn0.turn1.2.m.cut = j.turn0.m.cut ∧ j.turn0.turn1.2.m.armed = j.turn0.m.armed) ∨ (j.turn0.turn1.1 ≠ 0 ∧ Fell j.turn0 j.turn0.turn1.2 all) from hg.imp id fun ⟨a, b⟩ => ⟨a, hfell _ b⟩
  clear hfell hm ho hnx
  generalize j.turn0 = k at hx1 hx2 hx5 hz hup hst hnx' ho' ⊢
  have hbr : k.m.bare k.page = bareN (k.m.pg (x % 24)) 4096 := by
    unfold Mm.bare Jm.page
    rw [if_pos (by omega), Int.toNat_natCast, hx1]
  unfold Jm.turn1
  by_cases hb : 0 < k.m.bare k.page
  · rw [if_pos hb]
    obtain ⟨d, hd, hd2, e1, e2⟩ := erase_up hup
    rw [hx1] at e2
    have key := Jo.erase_part (k.m.pg (x % 24)) d hd
    rw [← Jo.layP_same k.m.pg (x % 24) 0] at key
    have other : ∀ q, q ≠ x % 24 → layP k.m.pg (x % 24) 0 (List.replicate d 255) q = k.m.pg q := fun q hq => Jo.layP_other _ hq _ _
    cases hh : k.m.hit
    · rw [hh] at e1
      rw [if_pos (by rw [e1]; rfl)]
      have hd3 := hd2 hh
      rcases key with ⟨k1, _⟩ | ⟨_, k1, k2⟩
      · omega
      · obtain ⟨k', hk'⟩ : ∃ k' : Jm, k' = { k with m := k.m.eraseM k.page } := ⟨_, rfl⟩
        have em : k'.m = { k.m.act with pg := layP k.m.pg (x % 24) 0 (List.replicate d 255), worn := fun q => if q = x % 24 then k.m.worn q + 1 else k.m.worn q } := by rw [hk']; exact e2
        have eh : k.head = k'.head := by rw [hk']; rfl
        rw [← hk', eh]
        rcases head_up (j := k') (all := all) (c := x) (L := L) (by rw [em]; exact hh) (by rw [hk']; exact hx1) (by rw [hk']; exact hx2) (by rw [hk']; exact hnx') (by rw [hk']; exact hz) (by rw [hk']; exact ho') h.oks hal hx3 (by rw [em]; exact k2 hd3) hx4 (fun pg' g1 g2 => hx5 pg' g1 fun q hq => (g2 q hq).trans (by rw [em]; exact other q hq)) with ⟨_, r1, ⟨K, r2, r3, r4⟩, r5, r6⟩ | ⟨r1, r2⟩
        · refine .inl ⟨r1, ⟨x + 1, K, by omega, r2, r3, r4⟩, r5.trans (by rw [em]; rfl), r6.trans (by rw [em]; rfl)⟩
        · refine .inr ⟨r1, r2.1, ?_, r2.2.2⟩
          have := r2.2.1
          rw [em] at this
          exact this
    · rw [hh] at e1
      rw [if_neg (by rw [e1]; exact (by decide : ¬ (14 : Nat) = 0))]
      refine .inr ⟨by rw [e1]; exact (by decide : (14 : Nat) ≠ 0), ?_⟩
      show (k.m.eraseM k.page).down = true ∧ _ ∧ ∃ c L, Jo.St (k.m.eraseM k.page).pg all c L
      rw [e2]
      refine ⟨hh, hit_some hh, ?_⟩
      rcases key with ⟨k0, k1⟩ | ⟨_, k1, _⟩
      · obtain ⟨c1, L1, k2⟩ := hst
        refine ⟨c1, L1, ?_⟩
        have e : layP k.m.pg (x % 24) 0 (List.replicate d 255) = k.m.pg := by rw [k0]; exact layP_nil _ _ _
        show Jo.St (layP k.m.pg (x % 24) 0 (List.replicate d 255)) all c1 L1
        rw [e]
        exact k2
      · exact ⟨_, _, hx5 _ k1 other⟩
  · rw [if_neg hb]
    have hbare : ∀ i, i < 4096 → k.m.pg (x % 24) i = 255 := (bareN_zero _ _).1 (by omega)
    rcases head_up (j := k) (all := all) (c := x) (L := L) hup hx1 hx2 hnx' hz ho' h.oks hal hx3 hbare hx4 hx5 with ⟨_, r1, ⟨K, r2, r3, r4⟩, r5, r6⟩ | r
    · exact .inl ⟨r1, ⟨x + 1, K, by omega, r2, r3, r4⟩, r5, r6⟩
    · exact .inr r
/-- a record more -/
theorem Con.put {j : Jm} {all : List Jo.Rc} {c : Nat} {L : Nat → Jo.Sh} (h : Con j all c L) (hal : all.length ≤ 2147483000) {r : Jo.Rc} (hr : r.ok) :
    ((j.put r).1 = 0 ∧ (∃ c' K, Con (j.put r).2 (all ++ [r]) c' K) ∧ (j.put r).2.m.cut = j.m.cut ∧ (j.put r).2.m.armed = j.m.armed) ∨ ((j.put r).1 ≠ 0 ∧ (Fell j (j.put r).2 all ∨ Fell j (j.put r).2 (all ++ [r]))) := by
  have hrl : (Jo.fram (Jo.recB r)).length ≤ 1008 := by rw [Jo.fram_length, Jo.recB_length]; have := hr.text; omega
  have hr1 : 0 < (Jo.fram (Jo.recB r)).length := by rw [Jo.fram_length]; omega
  unfold Jm.put
  cases hroom : j.room (Jo.fram (Jo.recB r))
  · rw [if_neg (by decide)]
    rcases h.turn hal with ⟨t1, ⟨c', K, t2, t3, t4, t5⟩, t6, t7⟩ | ⟨t1, t2⟩
    · rw [if_pos t1]
      rcases t3.addj t2 t4 hr (by omega) with ⟨_, a1, ⟨K', a2⟩, a3, a4⟩ | ⟨a1, a2⟩
      · exact .inl ⟨a1, ⟨_, _, a2⟩, a3.trans t6, a4.trans t7⟩
      · refine .inr ⟨a1, ?_⟩
        unfold Fell at a2 ⊢
        rw [t6] at a2
        exact a2
    · rw [if_neg t1]
      exact .inr ⟨t1, .inl t2⟩
  · rw [if_pos rfl]
    unfold Jm.room at hroom
    rw [Bool.and_eq_true, decide_eq_true_eq, decide_eq_true_eq] at hroom
    have hc : 0 < c := by
      rcases Nat.eq_zero_or_pos c with rfl | e
      · have : j.stop = 4096 := h.stop
        omega
      · exact e
    have hs : j.stop = (L (c - 1)).body.length := by rw [h.stop]; unfold stopOf; rw [if_neg (by omega)]
    obtain ⟨tl, ht⟩ := h.st.last hc
    have hbr : j.m.bare j.page = bareN (j.m.pg ((c - 1) % 24)) 4096 := by
      unfold Mm.bare Jm.page
      rw [if_pos (by omega), Int.toNat_natCast, h.nth]
    have htl : tl = [] := by
      rcases Classical.em (tl = []) with e | e
      · exact e
      · have := ht.bare1 e
        omega
    rw [htl] at ht
    rcases h.addj hc ht hr (by omega) with ⟨_, a1, ⟨K', a2⟩, a3, a4⟩ | ⟨a1, a2⟩
    · exact .inl ⟨a1, ⟨_, _, a2⟩, a3, a4⟩
    · exact .inr ⟨a1, a2⟩
end Go.Proofs.YtdoljggaoidljaaGreat
/- The contracts of a journal over a memory that no cut is armed in: Open, Append, as the laws call them. -/
namespace Go.Proofs.YtdoljggaoidljaaGreat
open Go.RowKit

theorem fr_quiet {B : Nat} {w w1 w2 : World} (F : Fr (fun k => B ≤ k) w w1) (f : Fr (fun _ => False) w1 w2) : Fr (fun k => B ≤ k) w w2 := F.trans f fun _ _ hk => hk.elim
theorem put_acts (j : Jm) (r : Jo.Rc) : (j.put r).2.m.acts ≤ j.m.acts + 3 ∧ ∀ q, (j.put r).2.m.worn q ≤ j.m.worn q + 1 := by
  have hb : ∀ (j : Jm) (t : List UInt8), (j.burn t).2.m.acts ≤ j.m.acts + 1 ∧ ∀ q, (j.burn t).2.m.worn q = j.m.worn q := fun j t => burn_acts j.m j.page j.stop t
  have ha : ∀ (j : Jm), (j.addj r).2.m.acts ≤ j.m.acts + 1 ∧ ∀ q, (j.addj r).2.m.worn q = j.m.worn q := by
    intro j
    unfold Jm.addj
    split
    · exact hb j _
    · exact hb j _
  have ht : ∀ (k : Jm), (k.turn1).2.m.acts ≤ k.m.acts + 2 ∧ ∀ q, (k.turn1).2.m.worn q ≤ k.m.worn q + 1 := by
    intro k
    have e1 := erase_acts k.m k.page
    have e2 := fun q => erase_worn k.m k.page q
    unfold Jm.turn1
    split
    · split
      · have h1 := hb { k with m := k.m.eraseM k.page } k.head
        refine ⟨Nat.le_trans h1.1 ?_, fun q => ?_⟩
        · show (k.m.eraseM k.page).acts + 1 ≤ _
          omega
        · rw [h1.2 q]
          exact e2 q
      · refine ⟨?_, e2⟩
        show (k.m.eraseM k.page).acts ≤ _
        omega
    · have h1 := hb k k.head
      exact ⟨by omega, fun q => by rw [h1.2 q]; omega⟩
  have hz : j.turn.2.m.acts ≤ j.m.acts + 2 ∧ ∀ q, j.turn.2.m.worn q ≤ j.m.worn q + 1 := ht j.turn0
  unfold Jm.put
  split
  · have := ha j
    exact ⟨by omega, fun q => by rw [this.2 q]; omega⟩
  · split
    · have := ha j.turn.2
      exact ⟨by omega, fun q => by rw [this.2 q]; exact hz.2 q⟩
    · exact ⟨by omega, hz.2⟩

/-- a memory that holds some records: no cut is armed in it, and its counts are small -/
structure Holds (m : Mm) (n : Nat) (all : List Jo.Rc) : Prop where
  st : ∃ c L, Jo.St m.pg all c L
  up : m.down = false
  cut : ∀ i, m.cut i = none
  acts : m.acts ≤ 4 * n
  worn : ∀ q, m.worn q ≤ 4 * n
  len : all.length ≤ n
  oks : ∀ r ∈ all, r.ok
/-- a journal over such a memory -/
structure Live (w : World) (jb mb : Nat) (r : Option Nat) (n : Nat) (all : List Jo.Rc) : Prop where
  ex : ∃ j c L, JM w jb mb r j ∧ Con j all c L ∧ Holds j.m n all
theorem holds_new : Holds Mm.new 0 [] := ⟨⟨0, fun _ => ⟨0, 0, none, []⟩, Jo.st_new (fun _ _ => Jo.garb_bare rfl) _⟩, rfl, fun _ => rfl, Nat.le_refl _, fun _ => Nat.zero_le _, Nat.le_refl _, fun _ h => absurd h (by simp)⟩
theorem Holds.again {m : Mm} {n : Nat} {all : List Jo.Rc} (h : Holds m n all) : Holds m.again n all := ⟨h.st, rfl, fun _ => rfl, Nat.zero_le _, h.worn, h.len, h.oks⟩
theorem Live.fr {w w' : World} {jb mb : Nat} {r : Option Nat} {n : Nat} {all : List Jo.Rc} (h : Live w jb mb r n all) (f : Fr (fun _ => False) w w') : Live w' jb mb r n all := by
  obtain ⟨j, c, L, a, b⟩ := h.ex
  exact ⟨j, c, L, a.fr f, b⟩
theorem Live.mem {w : World} {jb mb : Nat} {r : Option Nat} {n : Nat} {all : List Jo.Rc} (h : Live w jb mb r n all) : ∃ m, Mem w mb r m ∧ Holds m n all := by
  obtain ⟨j, c, L, a, _, b⟩ := h.ex
  exact ⟨j.m, a.mem, b⟩
/-- what Open answers -/
def Found (w : World) (mb : Nat) (r : Option Nat) (n : Nat) (all : List Jo.Rc) (e : Ending) (w' : World) : Prop :=
  ∃ (jb k : Nat) (A : Option Addr) (cp : Nat), e = .returned (.tuple #[.pointer (some ⟨jb, 0, none⟩), .slice A (all.drop k).length cp, .int .i64 0]) ∧ Live w' jb mb r n all ∧ w.heap.size ≤ jb ∧ k ≤ all.length ∧ (k = 0 ∨ k + 16 ≤ all.length) ∧ Rd w' A (recCells (k + 1) (all.drop k)) ∧ Fr (fun _ => False) w w'
theorem open_live {w : World} {b : Nat} {r : Option Nat} {m : Mm} (h : Mem w b r m) {n : Nat} {all : List Jo.Rc} (hs : Holds m n all) (hn : n ≤ 100000) :
    Calls Tryz.prog 9 #[.pointer (some ⟨b, 0, none⟩)] w (Found w b r n all) := by
  obtain ⟨c, L, hst⟩ := hs.st
  have hlen := hs.len
  refine (open_any h hs.up hst (by omega)).mono ?_
  rintro e w' ⟨jb, k, A, cp, rfl, hj, h1, h2, h3, h4, f⟩
  have hb := h.blt
  refine ⟨jb, k, A, cp, rfl, ⟨⟨m, Jo.lastSafe none all, c - 1, firstOf c L, all.length + 1, stopOf c L⟩, c, L, ⟨h.none f, hj.is, ?_⟩, ⟨hst, rfl, rfl, rfl, rfl, rfl, hs.up, hs.oks⟩, hs⟩, h1, h2, h3, h4, f⟩
  rintro (e | e)
  · omega
  · have := h.lt jb e
    omega
/-- Append of a record that is right -/
theorem append_live {w : World} {jb mb : Nat} {r : Option Nat} {n : Nat} {all : List Jo.Rc} (h : Live w jb mb r n all) (hn : n ≤ 100000) (k : Int) (x : ByteArray) (hk : k = 1 ∨ k = 2) (hx : x.size ≤ 1000) :
    Calls Tryz.prog 10 #[.pointer (some ⟨jb, 0, none⟩), .int .i64 k, .string x] w fun e w' => e = .returned (.int .i64 0) ∧ Live w' jb mb r (n + 1) (all ++ [⟨k, bytesOf x⟩]) ∧ JF w w' jb mb r := by
  obtain ⟨j, c, L, a, b, d⟩ := h.ex
  have hlen := d.len
  have hact := d.acts
  have hcnt := b.st.count
  have hol : (j.o.getD []).length ≤ 1000 := by rw [b.o]; exact lastSafe_len all none b.oks (by decide)
  have hrx : (⟨k, bytesOf x⟩ : Jo.Rc).ok := ⟨hk, by rw [show (⟨k, bytesOf x⟩ : Jo.Rc).text = bytesOf x from rfl, bytesOf_length]; exact hx⟩
  have hfirst : j.first ≤ all.length + 1 := by
    rw [b.first]
    unfold firstOf
    split
    · omega
    · rw [b.st.first _ (by omega)]
      have e := b.st.all_last (c := c) (by omega)
      have e2 : all.length = (Jo.upto L (c - 1)).length + (L (c - 1)).recs.length := by rw [← List.length_append, ← e]
      omega
  have hstop : j.stop ≤ 4096 := by
    rw [b.stop]
    unfold stopOf
    split
    · exact Nat.le_refl _
    · exact body_le b.st (by omega)
  have hs : Jok 0 j := ⟨by omega, fun p => by have := d.worn p; omega, by rw [b.nth]; omega, by omega, by rw [b.next]; omega, hstop, hol⟩
  refine (append_any a b.up hs k x hk hx).mono ?_
  rintro e w' h1
  have hp := put_acts j ⟨k, bytesOf x⟩
  rcases b.put (by omega) hrx with ⟨q1, ⟨c', K, q2⟩, q3, q4⟩ | ⟨q1, q2⟩
  · rcases h1 with ⟨_, rfl, m1, f1⟩ | ⟨z, _⟩
    · refine ⟨rfl, ⟨_, c', K, m1, q2, ⟨⟨_, _, q2.st⟩, q2.up, fun i => by rw [q3]; exact d.cut i, by omega, fun q => by have := hp.2 q; have := d.worn q; omega, ?_, q2.oks⟩⟩, f1⟩
      rw [List.length_append]
      show all.length + 1 ≤ _
      omega
    · exact absurd q1 z
  · exfalso
    have : ∃ i, j.m.cut i ≠ none := by
      rcases q2 with q2 | q2
      · exact q2.2.1
      · exact q2.2.1
    obtain ⟨i, hi⟩ := this
    exact hi (d.cut i)
theorem next_live {w : World} {jb mb : Nat} {r : Option Nat} {n : Nat} {all : List Jo.Rc} (h : Live w jb mb r n all) : Calls Tryz.prog 13 #[.pointer (some ⟨jb, 0, none⟩)] w fun e w' => e = .returned (.int .i64 ((all.length + 1 : Nat) : Int)) ∧ w = w' := by
  obtain ⟨j, c, L, a, b, _⟩ := h.ex
  have := nextj_any a.jr
  rw [b.next] at this
  exact this
theorem safe_live {w : World} {jb mb : Nat} {r : Option Nat} {n : Nat} {all : List Jo.Rc} (h : Live w jb mb r n all) : Calls Tryz.prog 12 #[.pointer (some ⟨jb, 0, none⟩)] w fun e w' => e = .returned (.tuple #[.string (safeT (Jo.lastSafe none all)), .bool (Jo.lastSafe none all).isSome]) ∧ Fr (fun _ => False) w w' := by
  obtain ⟨j, c, L, a, b, _⟩ := h.ex
  have := safej_any a.jr
  rw [b.o] at this
  exact this
theorem Live.blt {w : World} {jb mb : Nat} {r : Option Nat} {n : Nat} {all : List Jo.Rc} (h : Live w jb mb r n all) : jb < w.heap.size ∧ mb < w.heap.size ∧ ∀ k, r = some k → k < w.heap.size := by
  obtain ⟨j, c, L, a, _⟩ := h.ex
  exact ⟨a.jr.lt, a.mem.blt, fun k e => a.mem.lt k e⟩
end Go.Proofs.YtdoljggaoidljaaGreat
/- The contract of the laws' first line: the chapter's example comes out. -/
namespace Go.Proofs.YtdoljggaoidljaaGreat
open Go.RowKit

namespace Ej
def a1 : List Jo.Rc := [⟨1, [97]⟩]
def a2 : List Jo.Rc := [⟨1, [97]⟩, ⟨2, [98]⟩]
theorem e1 : ([] ++ [⟨1, bytesOf ⟨#[97]⟩⟩] : List Jo.Rc) = a1 := by unfold bytesOf a1; rfl
theorem e2 : (a1 ++ [⟨2, bytesOf ⟨#[98]⟩⟩] : List Jo.Rc) = a2 := by unfold bytesOf a1 a2; rfl
theorem s2 : safeT (Jo.lastSafe none a2) = ⟨#[97]⟩ := rfl
theorem s3 : (Jo.lastSafe none a2).isSome = true := rfl
end Ej
theorem fr_jf {B b jb : Nat} {r : Option Nat} {w w1 w2 : World} (F : Fr (fun k => B ≤ k) w w1) (f : JF w1 w2 jb b r) (hb : B ≤ b) (hj : B ≤ jb) (hr : ∀ k, r = some k → B ≤ k) : Fr (fun k => B ≤ k) w w2 :=
  F.trans f fun k _ hk => by
    rcases hk with (rfl | hk) | rfl
    · exact hb
    · exact hr _ hk
    · exact hj
set_option maxRecDepth 100000 in
set_option maxHeartbeats 4000000 in
theorem lives_any (w : World) : Calls Tryz.prog 6 #[] w fun e w' => e = .returned (.bool true) ∧ Fr (fun k => w.heap.size ≤ k) w w' := by
  go_enter Tryz.func6, Tryz.ntmps6
  go_wp2_with fail
  refine (new_any _).mono ?_
  rintro e w1 ⟨rfl, M0, F0⟩
  obtain ⟨b, hb⟩ : ∃ b, b = w.heap.size := ⟨_, rfl⟩
  rw [← hb] at M0 ⊢
  have hb0 : w.heap.size ≤ b := by omega
  have G1 := Lib.hid (fr_quiet (B := w.heap.size) (Fr.refl _ w) F0)
  have hb1 := M0.blt
  have H1 := Lib.hid M0
  clear F0 hb M0
  go_wp2_with fail
  refine (open_live H1.out holds_new (by decide)).mono ?_
  rintro e w2 ⟨j, k, A, cp, rfl, L2, q1, q2, q3, q4, F2⟩
  have hk : k = 0 := Nat.le_zero.1 q2
  subst hk
  have hj0 : w.heap.size ≤ j := by omega
  have hjb : j ≠ b := by omega
  have G2 := Lib.hid (fr_quiet G1.out F2)
  have H2 := Lib.hid L2
  have e0 : ((([] : List Jo.Rc).drop 0).length : Int) = 0 := rfl
  clear F2 L2 G1 H1 q1 q2 q3 q4
  go_wp2_with fail
  refine (append_live H2.out (by decide) 1 ⟨#[97]⟩ (.inl rfl) (by decide)).mono ?_
  rintro e w3 ⟨rfl, L3, F3⟩
  rw [Ej.e1] at L3
  have G3 := Lib.hid (fr_jf G2.out F3 hb0 hj0 fun k hk => by cases hk)
  obtain ⟨m3, M3, S3⟩ := L3.mem
  have K3 := again_any M3
  obtain ⟨u, hu⟩ : ∃ u, u = w3.heap.size := ⟨_, rfl⟩
  rw [← hu] at K3
  have hlt3 := L3.blt
  have hu0 : w.heap.size ≤ u := by omega
  have hub : u ≠ b := by omega
  have huj : u ≠ j := by omega
  have H3 := Lib.hid L3
  have HS3 := Lib.hid S3.again
  clear F3 L3 G2 H2 M3 S3 hlt3 hu
  go_wp2_with fail
  refine K3.mono ?_
  clear K3
  rintro e w4 ⟨rfl, N4, F4⟩
  have G4 := Lib.hid (fr_quiet G3.out F4)
  have H4 := Lib.hid (H3.out.fr F4)
  have HN4 := Lib.hid N4
  clear F4 N4 G3 H3
  go_wp2_with fail
  refine (append_live H4.out (by decide) 2 ⟨#[98]⟩ (.inr rfl) (by decide)).mono ?_
  rintro e w5 ⟨rfl, L5, F5⟩
  rw [Ej.e2] at L5
  have G5 := Lib.hid (fr_jf G4.out F5 hb0 hj0 fun k hk => by cases hk)
  have HN5 := Lib.hid (HN4.out.fr F5 (by rintro ((e | e) | e); exact hub e; cases e; exact huj e) fun k hk => by cases hk)
  obtain ⟨m5, M5, S5⟩ := L5.mem
  have K5 := again_any M5
  obtain ⟨v, hv⟩ : ∃ v, v = w5.heap.size := ⟨_, rfl⟩
  rw [← hv] at K5
  have hlt5 := L5.blt
  have hv0 : w.heap.size ≤ v := by omega
  have HS5 := Lib.hid S5.again
  clear F5 L5 G4 H4 M5 S5 hlt5 hv HN4
  go_wp2_with fail
  refine K5.mono ?_
  clear K5
  rintro e w6 ⟨rfl, M6, F6⟩
  have G6 := Lib.hid (fr_quiet G5.out F6)
  have HN6 := Lib.hid (HN5.out.none F6)
  have HM6 := Lib.hid M6
  clear F6 M6 G5 HN5
  go_wp2_with fail
  refine (open_live HM6.out HS5.out (by decide)).mono ?_
  rintro e w7 ⟨q, k, A, cp, rfl, L7, q1, q2, q3, q4, F7⟩
  have hk : k = 0 := by
    have : k ≤ 2 := q2
    rcases q3 with e | e
    · exact e
    · have : k + 16 ≤ 2 := e
      omega
  subst hk
  have e0 : ((Ej.a2.drop 0).length : Int) = 2 := rfl
  have e1 : (Ej.a2.drop 0).length = 2 := rfl
  rw [e1]
  have hq0 : w.heap.size ≤ q := by have := G6.out.size; omega
  have G7 := Lib.hid (fr_quiet G6.out F7)
  have HN7 := Lib.hid (HN6.out.none F7)
  have H7 := Lib.hid L7
  have HR7 := Lib.hid q4
  clear F7 L7 q1 q2 q3 q4 G6 HN6 HM6 e0 e1
  go_wp2_with fail
  refine (safe_live H7.out).mono ?_
  rw [Ej.s2, Ej.s3]
  rintro e w8 ⟨rfl, F8⟩
  have G8 := Lib.hid (fr_quiet G7.out F8)
  have HN8 := Lib.hid (HN7.out.none F8)
  have H8 := Lib.hid (H7.out.fr F8)
  have HR8 := Lib.hid (HR7.out.fr F8 fun _ _ => id)
  clear F8 G7 HN7 H7 HR7
  go_wp2_with fail
  refine (open_live HN8.out HS3.out (by decide)).mono ?_
  rintro e w9 ⟨q', k, A', cp', rfl, L9, q1, q2, q3, q4, F9⟩
  have hk : k = 0 := by
    have : k ≤ 1 := q2
    rcases q3 with e | e
    · exact e
    · have : k + 16 ≤ 1 := e
      omega
  subst hk
  have e1 : (Ej.a1.drop 0).length = 1 := rfl
  rw [e1]
  have G9 := Lib.hid (fr_quiet G8.out F9)
  have H9 := Lib.hid (H8.out.fr F9)
  have I9 := Lib.hid L9
  have HR9 := Lib.hid (HR8.out.fr F9 fun _ _ => id)
  clear F9 L9 q1 q2 q3 q4 G8 HN8 H8 HR8 e1
  obtain ⟨g, o, rfl, hg, c0, c1, c2⟩ := rd_rec (l := Ej.a2) (n := 1) (j := 0) HR9.out (by decide)
  have x0 : w9.cell? ⟨g, o, none⟩ = some (.int .i64 1) := c0
  have x1 : w9.cell? ⟨g, o + 1, none⟩ = some (.int .i64 1) := c1
  have x2 : w9.cell? ⟨g, o + 2, none⟩ = some (.string ⟨#[97]⟩) := c2
  have KN : Calls Tryz.prog 13 #[.pointer (some ⟨q, 0, none⟩)] w9 fun e w' => e = .returned (.int .i64 3) ∧ w9 = w' := next_live H9.out
  have KM : Calls Tryz.prog 13 #[.pointer (some ⟨q', 0, none⟩)] w9 fun e w' => e = .returned (.int .i64 2) ∧ w9 = w' := next_live I9.out
  clear c0 c1 c2 HR9 H9 I9
  go_wp2_with (first | (refine KN.mono ?_; rintro e w' ⟨rfl, rfl⟩) | (refine KM.mono ?_; rintro e w' ⟨rfl, rfl⟩))
  go_ret
  exact ⟨rfl, G9.out⟩
end Go.Proofs.YtdoljggaoidljaaGreat

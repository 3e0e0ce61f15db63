/- The contract of read: what a text says of parts. -/
import Derived.Test.YtmohefkingnknaaTnext
import Derived.Deep.RegionHeld3
namespace Go.Proofs.Ytmohefkingnknaa.Te
open Go.RowKit Go.Proofs.Ytmohefkingnknaa.Pa

/-- what a text says of parts is right -/
def goodC (t : List UInt8) : Nat → List Pt → Bool
  | _, [] => true
  | o, p :: r => okL (cutL t o p.n) p.n p.m && goodC t (o + p.n) r
def readB (kd : UInt8) (ps : List Pt) (t : List UInt8) : Bool := decide (t.length = widthP ps) && (decide (t.head? = some kd) && goodC t 1 ps)
/-- parts with their lists -/
def withX (ps : List Pt) (xs : List L3) : List Pt := List.zipWith (fun p x => { p with A := x.A, l := x.l, c := x.c }) ps xs
theorem withX_cells : ∀ (ps : List Pt) (xs : List L3), xs.length = ps.length → cellsP (withX ps xs) = cellsP ps
  | [], [], _ => rfl
  | p :: ps, x :: xs, h => by
    show [_, _, _] ++ cellsP (withX ps xs) = p.cells ++ cellsP ps
    rw [withX_cells ps xs (by simpa using h)]
    rfl
theorem withX_good (t : List UInt8) : ∀ (ps : List Pt) (xs : List L3) (o : Nat), xs.length = ps.length → (∀ j (hj : j < xs.length) (hp : j < ps.length), xs[j].l = cutL t ((ps.take j).foldl (fun s p => s + p.n) o) ps[j].n) → (withX ps xs).all Pt.good = goodC t o ps
  | [], [], _, _, _ => rfl
  | p :: ps, x :: xs, o, h, hx => by
    have ih := withX_good t ps xs (o + p.n) (by simpa using h) fun j hj hp => by
      have := hx (j + 1) (by simpa using hj) (by simpa using hp)
      simpa using this
    have h0 : x.l = cutL t o p.n := hx 0 (by simp) (by simp)
    show (okL x.l p.n p.m && (withX ps xs).all Pt.good) = (okL (cutL t o p.n) p.n p.m && goodC t (o + p.n) ps)
    rw [ih, h0]
theorem withX_get {ps : List Pt} {xs : List L3} {j : Nat} (h1 : j < ps.length) (h2 : j < xs.length) (h : j < (withX ps xs).length) : (withX ps xs)[j] = ⟨ps[j].n, ps[j].m, ps[j].b, ps[j].o, xs[j].A, xs[j].l, xs[j].c⟩ := List.getElem_zipWith
structure Got (t : List UInt8) (z : Nat) (w : World) (p : Pt) (o : Nat) (x : L3) : Prop where
  ok : x.Ok w
  l : x.l = cutL t o p.n
  new : ∀ q, blk x.A = some q → z ≤ q
theorem Got.fr {t : List UInt8} {z o : Nat} {w w1 : World} {p : Pt} {x : L3} {S : Nat → Prop} (h : Got t z w p o x) (f : Fr S w w1) (hS : ∀ q, z ≤ q → ¬ S q) : Got t z w1 p o x :=
  ⟨h.ok.fr f fun k hk => hS k (h.new k hk), h.l, h.new⟩
def Gots (t : List UInt8) (z : Nat) (w : World) (ps : List Pt) (xs : List L3) : Prop := ∀ j (hj : j < xs.length) (hp : j < ps.length), Got t z w ps[j] (widthP (ps.take j)) xs[j]
def At (cs : Array Value) (xs : List L3) : Prop := ∀ j (hj : j < xs.length), cs[j]? = some xs[j].val
theorem at_snoc {cs : Array Value} {xs : List L3} {x : L3} (h : At cs xs) (hs : xs.length < cs.size) : At (cs.setIfInBounds xs.length x.val) (xs ++ [x]) := fun j hj => by
  rw [List.length_append, List.length_singleton] at hj
  rw [Array.getElem?_setIfInBounds]
  by_cases hl : j < xs.length
  · rw [if_neg (by omega), h j hl, List.getElem_append_left hl]
  · have e : j = xs.length := by omega
    subst e
    rw [if_pos rfl, if_pos hs]
    simp
theorem gots_snoc {t : List UInt8} {z : Nat} {w : World} {ps : List Pt} {xs : List L3} {x : L3} (h : Gots t z w ps xs) (hl : xs.length < ps.length) (hx : Got t z w ps[xs.length] (widthP (ps.take xs.length)) x) : Gots t z w ps (xs ++ [x]) := fun j hj hp => by
  rw [List.length_append, List.length_singleton] at hj
  by_cases hlt : j < xs.length
  · rw [List.getElem_append_left hlt]
    exact h j hlt hp
  · have e : j = xs.length := by omega
    subst e
    simpa using hx
theorem widthP_succ {ps : List Pt} {k : Nat} (h : k < ps.length) : widthP (ps.take (k + 1)) = widthP (ps.take k) + ps[k].n := by rw [List.take_succ_eq_append_getElem h, widthP_snoc]
theorem widthP_mono (ps : List Pt) : ∀ (d k : Nat), k + d ≤ ps.length → widthP (ps.take k) ≤ widthP (ps.take (k + d))
  | 0, _, _ => Nat.le_refl _
  | d + 1, k, h => Nat.le_trans (widthP_mono ps d k (by omega)) (by rw [show k + (d + 1) = (k + d) + 1 by omega, widthP_succ (by omega)]; omega)
theorem widthP_le {ps : List Pt} {k : Nat} (h : k < ps.length) : widthP (ps.take k) + ps[k].n ≤ widthP ps := by
  have := widthP_mono ps (ps.length - (k + 1)) (k + 1) (by omega)
  rw [show k + 1 + (ps.length - (k + 1)) = ps.length by omega, List.take_length, widthP_succ h] at this
  exact this
theorem widthP_pos (ps : List Pt) : 1 ≤ widthP ps := by
  have := widthP_mono ps ps.length 0 (by omega)
  rw [Nat.zero_add, List.take_length] at this
  exact this

set_option maxHeartbeats 2000000 in
theorem read_any {A : Option Addr} {c b : Nat} {tt : TypeId} {cs : Array Value} {ps : List Pt} (w : World) (s : ByteArray) (kd : Nat) (hk : kd ≤ 255) (h : Rd w A (cellsP ps)) (hps : ∀ j (hj : j < ps.length), ps[j].b = b ∧ ps[j].o = j)
    (hn : ∀ p ∈ ps, p.n ≤ 17592186044416) (hal : ps.length ≤ 4) (hb : Is w b tt cs) (hcs : cs.size = ps.length) (hA : blk A ≠ some b) :
    Calls Try.prog 38 #[.string s, .int .i64 (kd : Int), .slice A ps.length c] w fun e w' => e = .returned (.bool (readB (UInt8.ofNat kd) ps (bytesOf s))) ∧ Fr (fun k => k = b) w w' ∧ ∃ (cs' : Array Value) (xs : List L3), cs'.size = ps.length ∧ Is w' b tt cs' ∧
      (readB (UInt8.ofNat kd) ps (bytesOf s) = true → xs.length = ps.length ∧ At cs' xs ∧ Gots (bytesOf s) w.heap.size w' ps xs) := by
  have KW := width_any (c := c) w h hn hal
  have hw := widthP_take ps hn ps.length (Nat.le_refl _)
  rw [List.take_length] at hw
  have hW : widthP ps ≤ 70368744177665 := by omega
  have hsz := bytesOf_length s
  by_cases h1 : (bytesOf s).length = widthP ps
  · have hpos := widthP_pos ps
    have e1 : ((s.size : Int) != (widthP ps : Int)) = false := by
      simp
      omega
    have hne : bytesOf s ≠ [] := fun e => by
      rw [e] at h1
      simp at h1
      omega
    obtain ⟨q0, t0, hq⟩ : ∃ q0 t0, bytesOf s = q0 :: t0 := by
      cases hb : bytesOf s with
      | nil => exact absurd hb hne
      | cons q0 t0 => exact ⟨q0, t0, rfl⟩
    obtain ⟨v1, v2, v3⟩ : val (bytesOf ((⟨s, false⟩ : Rs).tk 1)) = (q0.toNat : Int) ∧ bytesOf ((⟨s, false⟩ : Rs).aft 1).s = t0 ∧ ((⟨s, false⟩ : Rs).aft 1).bad = false := by
      have h := Rs.read_tk (r := ⟨s, false⟩) (l := [q0]) (k := t0) rfl (by rw [hq]; rfl)
      simp only [List.length_cons, List.length_nil, Nat.zero_add] at h
      refine ⟨?_, h.2.1, h.2.2⟩
      rw [h.1]
      simp [val]
    have KB := fun (W : World) (rb : Nat) (R : Re W rb s false) => rbyte_any (r := ⟨s, false⟩) R
    rw [v1, v3] at KB
    generalize ((⟨s, false⟩ : Rs).aft 1).s = s1 at *
    have hbl := hb.lt
    have HPS := Lib.hid hps
    have HB := Lib.hid hb
    have HC := Lib.hid hcs
    have HQ := Lib.hid hq
    have HH := Lib.hid h
    have H1 := Lib.hid h1
    have HW := Lib.hid hW
    have V2 := Lib.hid v2
    have HN := Lib.hid hn
    have hR : readB (UInt8.ofNat kd) ps (bytesOf s) = (decide (q0 = UInt8.ofNat kd) && goodC (bytesOf s) 1 ps) := by
      unfold readB
      rw [show decide ((bytesOf s).length = widthP ps) = true by simpa using h1, Bool.true_and, hq]
      congr 1
      simp
    have HR := Lib.hid hR
    clear hR hps hb hcs hq h h1 hw hW hn v1 v2 v3 hne hpos hsz
    generalize readB (UInt8.ofNat kd) ps (bytesOf s) = RB at *
    generalize hWP : widthP ps = WP at *
    have HWP := Lib.hid hWP
    clear hWP
    generalize hTT : bytesOf s = T at *
    clear hTT
    have hkd : q0 = UInt8.ofNat kd ↔ (q0.toNat : Int) = (kd : Int) := by
      constructor
      · intro e
        rw [e, UInt8.toNat_ofNat']
        omega
      · intro e
        apply UInt8.toNat_inj.1
        rw [UInt8.toNat_ofNat']
        omega
    by_cases hkk : q0 = UInt8.ofNat kd
    · have e2 : ((q0.toNat : Int) != (kd : Int)) = false := by simpa using hkd.1 hkk
      rw [show decide (q0 = UInt8.ofNat kd) = true by simpa using hkk, Bool.true_and] at HR
      clear hkd hkk
      generalize (q0.toNat : Int) = kk at *
      go_enter Try.func38, Try.ntmps38
      go_wp2_with fail
      refine KW.mono ?_
      rintro e w1 ⟨rfl, f1⟩
      go_wp2_with fail
      refine (Pa.read_any s w1).mono ?_
      rintro e w2 ⟨rfl, hw2⟩
      have R2 : Re w2 w1.heap.size s false := by rw [hw2]; exact Is.new _ _ _
      have f2 : Fr (fun _ => False) w w2 := by rw [hw2]; exact f1.alloc _
      have hrb : w.heap.size ≤ w1.heap.size := f1.size
      clear hw2 f1 KW
      generalize w1.heap.size = rb at *
      go_wp2_with fail
      refine (KB w2 rb R2).mono ?_
      rintro e w3 ⟨rfl, R3, f3⟩
      have g3 : Fr (fun _ => False) w w3 := f2.trans f3 (fun j hj e => by omega)
      clear R2 f2 f3 KB
      go_wp2_with fail
      have HG3 := Lib.hid g3
      have HR3 := Lib.hid R3
      clear g3 R3
      go_loopw [23] (fun i wr => ∃ (k : Nat) (sk : ByteArray) (cs' : Array Value) (xs : List L3), k ≤ ps.length ∧ i = .int .i64 (k : Nat) ∧ Re wr rb sk false ∧ bytesOf sk = T.drop (widthP (ps.take k)) ∧ cs'.size = ps.length ∧ Is wr b tt cs' ∧ xs.length = k ∧ At cs' xs ∧ Gots T (rb + 1) wr ps xs ∧ Fr (fun k => k = b) w wr) (fun i _ => ps.length - (intOf i).toNat)
      case atStart =>
        refine ⟨0, s1, cs, [], Nat.zero_le _, rfl, HR3.out, ?_, HC.out, HB.out.fr HG3.out id, rfl, fun j hj => by simp at hj, fun j hj => by simp at hj, HG3.out.mono fun _ _ h => h.elim⟩
        rw [V2.out, HQ.out]
        rfl
      case round =>
        clear HG3 HR3 V2
        obtain ⟨k, sk, cs', xs, hk', rfl, R, hsk, hcs, ib, hxl, hat, hgs, fr⟩ := hrel
        by_cases hlt : k < ps.length
        · obtain ⟨g, o, rfl, hg, q0', q1, q2⟩ := rd_pt (HH.out.fr fr (fun j hj e => hA (by rw [hj, e]))) hlt
          obtain ⟨hpb, hpo⟩ := HPS.out k hlt
          rw [hpb, hpo] at q2
          have hle := widthP_le hlt
          rw [HWP.out] at hle
          have hnk := HN.out _ (List.getElem_mem hlt)
          have hskl := congrArg List.length hsk
          rw [List.length_drop, H1.out, bytesOf_length] at hskl
          have hnx : ps[k].n ≤ sk.size := by omega
          have hcut : inL ((bytesOf sk).take ps[k].n) = cutL T (widthP (ps.take k)) ps[k].n := by rw [hsk]; rfl
          have hnext : (bytesOf sk).drop ps[k].n = T.drop (widthP (ps.take (k + 1))) := by rw [hsk, List.drop_drop, widthP_succ hlt]
          have KN := fun (W : World) (R : Re W rb sk false) => next_any R hnx hnk
          have HGS := Lib.hid hgs
          have HAT := Lib.hid hat
          have HXL := Lib.hid hxl
          have HCS := Lib.hid hcs
          have HCUT := Lib.hid hcut
          have HNEXT := Lib.hid hnext
          have hgotk : ∀ (W : World) (x : L3), Got T (rb + 1) W ps[k] (widthP (ps.take k)) x → Gots T (rb + 1) W ps xs → Gots T (rb + 1) W ps (xs ++ [x]) := fun W x hx hG => by
            subst hxl
            exact gots_snoc hG hlt hx
          have HGOT := Lib.hid hgotk
          have hlb : (ps[k].n : Int) ≤ 17592186044416 := by omega
          have HNK := Lib.hid hnk
          have HNX := Lib.hid hnx
          clear hgs hat hxl hcs hcut hnext hle hnk hskl hnx hgotk hpb hpo
          generalize ps[k].m = m at *
          generalize hpn : ps[k].n = n at *
          have HPN := Lib.hid hpn
          clear hpn
          have ip : Is (wr.alloc (.cells #[.int .i64 (n : Int), .int .i64 m, .pointer (some ⟨b, k, none⟩)] 106)) wr.heap.size 106 #[.int .i64 (n : Int), .int .i64 m, .pointer (some ⟨b, k, none⟩)] := Is.new _ _ _
          have R1 : Re (wr.alloc (.cells #[.int .i64 (n : Int), .int .i64 m, .pointer (some ⟨b, k, none⟩)] 106)) rb sk false := Is.alloc R _
          have fa : Fr (fun _ => False) wr (wr.alloc (.cells #[.int .i64 (n : Int), .int .i64 m, .pointer (some ⟨b, k, none⟩)] 106)) := (Fr.refl _ _).alloc _
          have hbw : b < wr.heap.size := ib.lt
          have hrbw : rb < wr.heap.size := R.lt
          have HBW := Lib.hid hbw
          have HRBW := Lib.hid hrbw
          have HIB := Lib.hid ib
          have HR1 := Lib.hid R1
          have HFA := Lib.hid fa
          have HFR := Lib.hid fr
          have HIP := Lib.hid ip
          have HSK := Lib.hid hsk
          clear hbw hrbw ib R R1 fa fr hsk ip
          go_wp2_with fail
          generalize wr.alloc (.cells #[.int .i64 (n : Int), .int .i64 m, .pointer (some ⟨b, k, none⟩)] 106) = w4 at *
          generalize hpb : wr.heap.size = pb at *
          have HPBE := Lib.hid hpb
          clear hpb
          have s5 : w4.drew.cell? ⟨pb, 0, none⟩ = some (.int .i64 (n : Int)) ∧ w4.drew.cell? ⟨pb, 2, none⟩ = some (.pointer (some ⟨b, k, none⟩)) := ⟨(HIP.out.cell 0).trans rfl, (HIP.out.cell 2).trans rfl⟩
          have hpne : Hid (pb ≠ b) := Lib.hid (by have := HBW.out; omega)
          have HR5 := Lib.hid (show Re w4.drew rb sk false from HR1.out)
          go_region_held3 (fun Wx => Wx.cell? ⟨pb, 0, none⟩ = some (.int .i64 (n : Int)) ∧ Wx.cell? ⟨pb, 2, none⟩ = some (.pointer (some ⟨b, k, none⟩))) (first | exact s5 | exact s6 | exact ⟨((I6.out.far hpne.out _).cell 0).trans rfl, ((I6.out.far hpne.out _).cell 2).trans rfl⟩) (first | (go_at_call 64; refine (KN _ HR5.out).mono ?_; rintro e w6 ⟨gn, sn, rfl, hgn, hgl, rn, Rn, en, fn⟩; have I6 := Lib.hid (HIP.out.drew.fr fn (by have := HRBW.out; omega)); have s6 : w6.cell? ⟨pb, 0, none⟩ = some (.int .i64 (n : Int)) ∧ w6.cell? ⟨pb, 2, none⟩ = some (.pointer (some ⟨b, k, none⟩)) := ⟨(I6.out.cell 0).trans rfl, (I6.out.cell 2).trans rfl⟩; have J6 := (HIB.out.fr HFA.out id).drew.fr fn (by omega); have z6 := J6.frozen k; obtain ⟨v6, c6⟩ : ∃ v, w6.cell? ⟨b, k, none⟩ = some v := ⟨_, (J6.cell k).trans (Array.getElem?_eq_getElem (by have := HCS.out; omega))⟩; have HRN := Lib.hid rn; have HJ6 := Lib.hid J6; have HRE := Lib.hid Rn; have HEN := Lib.hid en; have HFN := Lib.hid fn; have HGN := Lib.hid hgn; have HGL := Lib.hid hgl; clear rn J6 Rn en fn hgn hgl))
          have hxlen : (inL ((bytesOf sk).take n)).length = n := by
            have := HNX.out
            rw [inL_length, List.length_take, bytesOf_length]
            omega
          have hval : (L3.mk (some ⟨gn, 0, none⟩) (inL ((bytesOf sk).take n)) n).val = .slice (some ⟨gn, 0, none⟩) n n := by
            show Value.slice _ (inL ((bytesOf sk).take n)).length n = _
            rw [hxlen]
          have J7 := HJ6.out.set k (.slice (some ⟨gn, 0, none⟩) n n)
          have hrbgn : rb < gn := by
            have h1 := HRBW.out
            have h2 := HFA.out.size
            have h3 : w4.heap.size ≤ gn := HGN.out
            have h4 := HPBE.out
            omega
          have hbrb : b ≠ rb := by omega
          have f67 : Fr (fun k => k = b) w6 (w6.setCell ⟨b, k, none⟩ (.slice (some ⟨gn, 0, none⟩) n n)) := (Fr.refl (fun k => k = b) w6).setCell (p := ⟨b, k, none⟩) (.inl rfl) _
          have fall : Fr (fun j => j = rb ∨ j = b) wr (w6.setCell ⟨b, k, none⟩ (.slice (some ⟨gn, 0, none⟩) n n)) :=
            ((HFA.out.drew.mono fun _ _ h => h.elim).trans HFN.out (fun _ _ h => .inl h)).trans f67 (fun _ _ h => .inr h)
          have gx : Got T (rb + 1) (w6.setCell ⟨b, k, none⟩ (.slice (some ⟨gn, 0, none⟩) n n)) ps[k] (widthP (ps.take k)) ⟨some ⟨gn, 0, none⟩, inL ((bytesOf sk).take n), n⟩ := by
            refine ⟨⟨HRN.out.fr f67 fun q hq e => ?_, by show (inL _).length ≤ _; rw [hxlen]; exact HNK.out, fun _ q hq => ?_⟩, ?_, fun q hq => ?_⟩
            · have hq' : gn = q := by injection hq
              omega
            · have hq' : gn = q := by injection hq
              have := HGL.out
              have := f67.size
              omega
            · rw [HPN.out]; exact HCUT.out
            · have hq' : gn = q := by injection hq
              omega
          have gs := HGOT.out _ _ gx (fun j hj hp => (HGS.out j hj hp).fr fall fun q hq e => by rcases e with e | e <;> omega)
          have hat7 := at_snoc (x := L3.mk (some ⟨gn, 0, none⟩) (inL ((bytesOf sk).take n)) n) HAT.out (by have := HXL.out; have := HCS.out; omega)
          rw [hval, HXL.out] at hat7
          have R7 : Re (w6.setCell ⟨b, k, none⟩ (.slice (some ⟨gn, 0, none⟩) n n)) rb sn false := Is.far HRE.out (by show rb ≠ b; omega) _
          have fr7 : Fr (fun k => k = b) w (w6.setCell ⟨b, k, none⟩ (.slice (some ⟨gn, 0, none⟩) n n)) :=
            HFR.out.trans fall (fun j hj e => by rcases e with e | e <;> omega)
          have he7 : bytesOf sn = T.drop (widthP (ps.take (k + 1))) := by rw [HEN.out, HNEXT.out]
          have hl7 : (xs ++ [L3.mk (some ⟨gn, 0, none⟩) (inL ((bytesOf sk).take n)) n]).length = k + 1 := by rw [List.length_append, HXL.out]; rfl
          have hc7 : (cs'.setIfInBounds k (.slice (some ⟨gn, 0, none⟩) n n)).size = ps.length := by rw [Array.size_setIfInBounds]; exact HCS.out
          have hrel7 := And.intro R7 (And.intro he7 (And.intro hc7 (And.intro J7 (And.intro hl7 (And.intro hat7 (And.intro gs fr7))))))
          clear R7 he7 hc7 J7 hl7 hat7 gs fr7 gx fall f67 hval hxlen
          generalize xs ++ [L3.mk (some ⟨gn, 0, none⟩) (inL ((bytesOf sk).take n)) n] = xs7 at *
          generalize cs'.setIfInBounds k (.slice (some ⟨gn, 0, none⟩) n n) = cs7 at *
          generalize w6.setCell ⟨b, k, none⟩ (.slice (some ⟨gn, 0, none⟩) n n) = w7 at *
          have HREL := Lib.hid hrel7
          clear hrel7
          go_wp2_with fail
          go_roundw
          case rel => exact ⟨k + 1, sn, cs7, xs7, by omega, by go_num, HREL.out⟩
          case measure => simp [intOf]; omega
        · have hkl : k = ps.length := by omega
          have hx2 : xs.length = ps.length := by omega
          have hwx : (withX ps xs).length = ps.length := by unfold withX; rw [List.length_zipWith]; omega
          have P : Prs wr A (withX ps xs) := by
            refine ⟨by rw [withX_cells ps xs hx2]; exact HH.out.fr fr (fun j hj e => hA (by rw [hj, e])), fun p hp => ?_⟩
            obtain ⟨j, hj, rfl⟩ := List.mem_iff_getElem.1 hp
            have hj1 : j < ps.length := by omega
            have hj2 : j < xs.length := by omega
            rw [withX_get hj1 hj2 hj]
            obtain ⟨hpb, hpo⟩ := HPS.out j hj1
            have G := hgs j hj2 hj1
            exact ⟨by show wr.cell? ⟨ps[j].b, ps[j].o, none⟩ = _; rw [hpb, hpo, ib.cell j]; exact hat j hj2, G.ok.rd, G.ok.le, (show ps[j].n ≤ _ from HN.out ps[j] (List.getElem_mem hj1)), G.ok.lt⟩
          have KC := containsr_any (c := c) wr P (by omega)
          rw [hwx] at KC
          rw [withX_good T ps xs 1 hx2 (fun j hj hp => (hgs j hj hp).l), ← HR.out] at KC
          have hgz : Gots T w.heap.size wr ps xs := fun j hj hp => ⟨(hgs j hj hp).ok, (hgs j hj hp).l, fun q hq => by have := (hgs j hj hp).new q hq; omega⟩
          have HGZ := Lib.hid hgz
          have HAT := Lib.hid hat
          have HIB := Lib.hid ib
          clear hgs hat ib hgz P hkl hwx hsk
          go_wp2_with fail
          refine KC.mono ?_
          rintro e w8 ⟨rfl, f8⟩
          go_wp2_with fail
          go_ret
          refine ⟨by rw [← Bool.not_not RB]; rfl, fr.trans f8 fun _ _ h => h.elim, cs', xs, hcs, HIB.out.fr f8 id, fun _ => ⟨hx2, HAT.out, fun j hj hp => (HGZ.out j hj hp).fr f8 fun _ _ h => h⟩⟩
    · have e2 : ((q0.toNat : Int) != (kd : Int)) = true := by
        have : ¬ (q0.toNat : Int) = (kd : Int) := fun e => hkk (hkd.2 e)
        simpa using this
      rw [show decide (q0 = UInt8.ofNat kd) = false by simpa using hkk, Bool.false_and] at HR
      clear hkd hkk
      generalize (q0.toNat : Int) = kk at *
      go_enter Try.func38, Try.ntmps38
      go_wp2_with fail
      refine KW.mono ?_
      rintro e w1 ⟨rfl, f1⟩
      go_wp2_with fail
      refine (Pa.read_any s w1).mono ?_
      rintro e w2 ⟨rfl, hw2⟩
      have R2 : Re w2 w1.heap.size s false := by rw [hw2]; exact Is.new _ _ _
      have f2 : Fr (fun _ => False) w w2 := by rw [hw2]; exact f1.alloc _
      have hrb : w.heap.size ≤ w1.heap.size := f1.size
      clear hw2 f1 KW
      generalize w1.heap.size = rb at *
      go_wp2_with fail
      refine (KB w2 rb R2).mono ?_
      rintro e w3 ⟨rfl, R3, f3⟩
      have g3 : Fr (fun _ => False) w w3 := f2.trans f3 (fun j hj e => by omega)
      clear R2 f2 f3 KB
      go_wp2_with fail
      go_ret
      rw [HR.out]
      exact ⟨rfl, g3.mono fun _ _ h => h.elim, cs, [], HC.out, HB.out.fr g3 id, fun h => by cases h⟩
  · have hR : readB (UInt8.ofNat kd) ps (bytesOf s) = false := by unfold readB; rw [show decide ((bytesOf s).length = widthP ps) = false by simpa using h1]; rfl
    have e1 : ((s.size : Int) != (widthP ps : Int)) = true := by
      simp
      omega
    rw [hR]
    have HB := Lib.hid hb
    have HC := Lib.hid hcs
    clear hR h1 hw hW h hb
    generalize widthP ps = W at *
    go_enter Try.func38, Try.ntmps38
    go_wp2_with fail
    refine KW.mono ?_
    rintro e w1 ⟨rfl, f1⟩
    go_wp2_with fail
    go_ret
    exact ⟨rfl, f1.mono fun _ _ h => h.elim, cs, [], HC.out, HB.out.fr f1 id, fun h => by cases h⟩
end Go.Proofs.Ytmohefkingnknaa.Te

/- What the document says of writers and readers, as plain functions on lists of bytes; nothing here speaks of the program. -/
import Derived.Below
namespace Go.Proofs.Ytmohefkingnknaa.Pk

/-- A writer as plain data: its limit, what was written, its error. -/
structure S where
  L : Int
  bs : List UInt8
  e : Int

namespace S
def fail (s : S) (e : Int) : S := if s.e = 0 then { s with e := e } else s
def put (s : S) (t : List UInt8) : S := if s.e = 0 then (if (t.length : Int) ≤ s.L - s.bs.length then { s with bs := s.bs ++ t } else { s with e := 2 }) else s
end S

/-- byte i of a number of so many bytes, the greatest first -/
def dig (width : Nat) (n : Int) (i : Nat) : UInt8 := UInt8.ofNat (n / 2 ^ (8 * (width - 1 - i)) % 256).toNat
def digits (width : Nat) (n : Int) : List UInt8 := (List.range width).map (dig width n)
theorem digits_length (width : Nat) (n : Int) : (digits width n).length = width := by simp [digits]

def fits (width : Nat) (n : Int) : Bool := decide (0 ≤ n) && decide (n < 2 ^ (8 * width))

namespace S
def num (s : S) (width : Nat) (n : Int) : S := if fits width n = true then s.put (digits width n) else s.fail 32
def nums (s : S) (width : Nat) (l : List Int) : S := l.foldl (fun s n => s.num width n) s
def text (s : S) (t : List UInt8) : S := if t.length ≤ 255 then s.put (UInt8.ofNat t.length :: t) else s.fail 32
def texts (s : S) (l : List (List UInt8)) : S := l.foldl text s
def done (s : S) : List UInt8 × Int := if s.e = 0 then (s.bs, 0) else ([], s.e)

theorem fail_bad {s : S} (h : s.e ≠ 0) (e : Int) : s.fail e = s := by simp [fail, h]
theorem put_bad {s : S} (h : s.e ≠ 0) (t : List UInt8) : s.put t = s := by simp [put, h]
theorem num_bad {s : S} (h : s.e ≠ 0) (width : Nat) (n : Int) : s.num width n = s := by unfold num; split <;> simp [fail_bad h, put_bad h]
theorem text_bad {s : S} (h : s.e ≠ 0) (t : List UInt8) : s.text t = s := by unfold text; split <;> simp [fail_bad h, put_bad h]
theorem fail_L (s : S) (e : Int) : (s.fail e).L = s.L := by unfold fail; split <;> rfl
theorem fail_bs (s : S) (e : Int) : (s.fail e).bs = s.bs := by unfold fail; split <;> rfl
theorem put_L (s : S) (t : List UInt8) : (s.put t).L = s.L := by unfold put; split <;> (try split) <;> rfl
theorem num_L (s : S) (width : Nat) (n : Int) : (s.num width n).L = s.L := by unfold num; split <;> simp [put_L, fail_L]
theorem text_L (s : S) (t : List UInt8) : (s.text t).L = s.L := by unfold text; split <;> simp [put_L, fail_L]
theorem fail_e {s : S} {e : Int} (h : e ≠ 0) : (s.fail e).e ≠ 0 := by unfold fail; split <;> simp_all
theorem nums_bad {s : S} (h : s.e ≠ 0) (width : Nat) (l : List Int) : s.nums width l = s := by
  induction l with
  | nil => rfl
  | cons n l ih => show (s.num width n).nums width l = s; rw [num_bad h]; exact ih
theorem texts_bad {s : S} (h : s.e ≠ 0) (l : List (List UInt8)) : s.texts l = s := by
  induction l with
  | nil => rfl
  | cons n l ih => show (s.text n).texts l = s; rw [text_bad h]; exact ih
theorem nums_cons (s : S) (width : Nat) (n : Int) (l : List Int) : s.nums width (n :: l) = (s.num width n).nums width l := rfl
theorem nums_append (s : S) (width : Nat) (l l' : List Int) : s.nums width (l ++ l') = (s.nums width l).nums width l' := List.foldl_append
theorem texts_append (s : S) (l l' : List (List UInt8)) : s.texts (l ++ l') = (s.texts l).texts l' := List.foldl_append
/-- how many bytes there are behind a step -/
theorem put_len (s : S) (t : List UInt8) : s.bs.length ≤ (s.put t).bs.length ∧ (s.put t).bs.length ≤ s.bs.length + t.length := by
  unfold put; split
  · split
    · simp
    · simp
  · simp
theorem num_len (s : S) (width : Nat) (n : Int) : s.bs.length ≤ (s.num width n).bs.length ∧ (s.num width n).bs.length ≤ s.bs.length + width := by
  unfold num; split
  · have := put_len s (digits width n); rw [digits_length] at this; exact this
  · rw [fail_bs]; omega
theorem text_len (s : S) (t : List UInt8) : s.bs.length ≤ (s.text t).bs.length ∧ (s.text t).bs.length ≤ s.bs.length + (t.length + 1) := by
  unfold text; split
  · have := put_len s (UInt8.ofNat t.length :: t); simpa using this
  · rw [fail_bs]; omega
theorem nums_L (s : S) (width : Nat) (l : List Int) : (s.nums width l).L = s.L := by
  induction l generalizing s with
  | nil => rfl
  | cons n l ih => rw [nums_cons, ih, num_L]
theorem texts_L (s : S) (l : List (List UInt8)) : (s.texts l).L = s.L := by
  induction l generalizing s with
  | nil => rfl
  | cons n l ih => show ((s.text n).texts l).L = s.L; rw [ih, text_L]
theorem nums_len (s : S) (width : Nat) (l : List Int) : s.bs.length ≤ (s.nums width l).bs.length ∧ (s.nums width l).bs.length ≤ s.bs.length + width * l.length := by
  induction l generalizing s with
  | nil => simp [nums]
  | cons n l ih =>
    rw [nums_cons]
    have h1 := ih (s.num width n)
    have h2 := num_len s width n
    rw [List.length_cons, Nat.mul_add, Nat.mul_one]
    omega
theorem text_len' (s : S) (t : List UInt8) : (s.text t).bs.length ≤ s.bs.length + 256 := by
  unfold text; split
  · have := put_len s (UInt8.ofNat t.length :: t); simp at this; omega
  · rw [fail_bs]; omega
theorem texts_len (s : S) (l : List (List UInt8)) : (s.texts l).bs.length ≤ s.bs.length + 256 * l.length := by
  induction l generalizing s with
  | nil => simp [texts]
  | cons t l ih =>
    show ((s.text t).texts l).bs.length ≤ _
    have h1 := ih (s.text t)
    have h2 := text_len' s t
    rw [List.length_cons, Nat.mul_add, Nat.mul_one]
    omega
/-- what holds of every writer: never more bytes than its limit -/
def Ok (s : S) : Prop := 0 ≤ s.L ∧ s.L ≤ 9223372036854775807 ∧ (s.bs.length : Int) ≤ s.L
theorem fail_ok {s : S} (h : s.Ok) (e : Int) : (s.fail e).Ok := by unfold fail; split <;> simpa [Ok] using h
theorem put_ok {s : S} (h : s.Ok) (t : List UInt8) : (s.put t).Ok := by
  obtain ⟨h1, h2, h3⟩ := h
  unfold put; split
  · split
    · refine ⟨h1, h2, ?_⟩; simp; omega
    · exact ⟨h1, h2, h3⟩
  · exact ⟨h1, h2, h3⟩
theorem num_ok {s : S} (h : s.Ok) (width : Nat) (n : Int) : (s.num width n).Ok := by unfold num; split <;> first | exact put_ok h _ | exact fail_ok h _
theorem text_ok {s : S} (h : s.Ok) (t : List UInt8) : (s.text t).Ok := by unfold text; split <;> first | exact put_ok h _ | exact fail_ok h _
end S

/-- A reader as plain data: what is left, and whether something couldn't be read. -/
structure R where
  rest : List UInt8
  bad : Bool

namespace R
def take (r : R) (n : Int) : List UInt8 × R := if r.bad = true ∨ (r.rest.length : Int) < n then ([], { r with bad := true }) else (r.rest.take n.toNat, { r with rest := r.rest.drop n.toNat })
def val (l : List UInt8) : Int := l.foldl (fun n b => n * 256 + (b.toNat : Int)) 0
def num (r : R) (width : Nat) : Int × R := (val (r.take width).1, (r.take width).2)
def size (r : R) : Int := match r.rest with | [] => 1 | b :: _ => 1 + (b.toNat : Int)
def text (r : R) : List UInt8 × R := ((r.take r.size).1.drop 1, (r.take r.size).2)
def fin (r : R) : Int := if r.bad = true then 1 else if r.rest = [] then 0 else 3
end R
end Go.Proofs.Ytmohefkingnknaa.Pk

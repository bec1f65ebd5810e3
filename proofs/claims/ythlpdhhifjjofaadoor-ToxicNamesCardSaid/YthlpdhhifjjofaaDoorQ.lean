/-
  Mathematics of a toxic's text, read: its parts, its numbers. Conditions: as each states.
-/
import Derived.Test.YthlpdhhifjjofaaDoorS
namespace Go.Proofs.YthlpdhhifjjofaaDoor
open Go.RowKit

/-- A text's number, if it is one. -/
def numP (t : ByteArray) : Option Int := parseF t.data.toList
/-- The numbers of the first texts; none, if one of them is none. -/
def numsP : List ByteArray → Option (List Int)
  | [] => some []
  | t :: r => match numP t, numsP r with
    | some n, some l => some (n :: l)
    | _, _ => none
/-- What Parse answers: a toxic's fields, an error. -/
structure Tox where
  s : ByteArray
  k : Int
  up : Bool
  o : Int
  a : Int
  b : Int
deriving DecidableEq
def noTox : Tox := ⟨⟨#[]⟩, 0, false, 0, 0, 0⟩
def upB : ByteArray := ⟨#[117, 112]⟩
def downB : ByteArray := ⟨#[100, 111, 119, 110]⟩
/-- What is read of parts and numbers. -/
def toxP (l : List ByteArray) (ns : List Int) : Tox := ⟨l.getD 0 ⟨#[]⟩, kindB (l.getD 1 ⟨#[]⟩), decide (l.getD 2 ⟨#[]⟩ = upB), ns.getD 0 0, ns.getD 1 0, ns.getD 2 0⟩
def parseP (l : List ByteArray) : Tox × Int :=
  if (∃ t ∈ l, t = ⟨#[]⟩) ∨ (l.length ≠ 5 ∧ l.length ≠ 6) ∨ (l.getD 2 ⟨#[]⟩ ≠ upB ∧ l.getD 2 ⟨#[]⟩ ≠ downB) then (noTox, 90)
  else match numsP (l.drop 3) with
    | none => (noTox, 90)
    | some ns =>
      if kindB (l.getD 1 ⟨#[]⟩) = 0 ∨ (ns.length : Int) ≠ 1 + numsB (kindB (l.getD 1 ⟨#[]⟩)) then (noTox, 91)
      else if checkB (toxP l ns).s (toxP l ns).k (toxP l ns).o (toxP l ns).a (toxP l ns).b = 0 then (toxP l ns, 0) else (noTox, checkB (toxP l ns).s (toxP l ns).k (toxP l ns).o (toxP l ns).a (toxP l ns).b)
/-- A text's parts. -/
def parseB (s : ByteArray) : Tox × Int := parseP (splK s s.size)
theorem numsP_len {l : List ByteArray} {ns : List Int} (h : numsP l = some ns) : ns.length = l.length := by
  induction l generalizing ns with
  | nil => simp [numsP] at h; subst h; rfl
  | cons t r ih =>
    unfold numsP at h
    cases h1 : numP t with
    | none => rw [h1] at h; simp at h
    | some n =>
      cases h2 : numsP r with
      | none => rw [h1, h2] at h; simp at h
      | some m =>
        rw [h1, h2] at h
        simp at h
        rw [← h, List.length_cons, ih h2, List.length_cons]
/-- The first j of them are numbers; the next one is none. -/
theorem numsP_stop {l : List ByteArray} (j : Nat) (hj : j < l.length) (h : numP (l.getD j ⟨#[]⟩) = none) : numsP l = none := by
  induction l generalizing j with
  | nil => cases hj
  | cons t r ih =>
    cases j with
    | zero =>
      have h' : numP t = none := h
      unfold numsP
      rw [h']
    | succ j =>
      have := ih j (by simpa using hj) h
      unfold numsP
      rw [this]
      cases numP t <;> rfl
theorem numsP_all {l : List ByteArray} {ns : List Int} (hl : ns.length = l.length) (h : ∀ j, j < l.length → numP (l.getD j ⟨#[]⟩) = some (ns.getD j 0)) : numsP l = some ns := by
  induction l generalizing ns with
  | nil =>
    obtain rfl : ns = [] := List.eq_nil_of_length_eq_zero hl
    rfl
  | cons t r ih =>
    cases ns with
    | nil => cases hl
    | cons n m =>
      have h0 : numP t = some n := h 0 (by simp)
      have h1 : numsP r = some m := ih (by simpa using hl) fun j hj => h (j + 1) (by simpa using hj)
      unfold numsP
      rw [h0, h1]
end Go.Proofs.YthlpdhhifjjofaaDoor

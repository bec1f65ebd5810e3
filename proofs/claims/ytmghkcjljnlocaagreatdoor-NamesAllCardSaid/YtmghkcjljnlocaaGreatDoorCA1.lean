/-
  Contracts: what the document's own Near and Ready answer. Conditions: as each states.
-/
import Derived.Test.YtmghkcjljnlocaaGreatDoorCA
namespace Go.Proofs.YtmghkcjljnlocaaGreatDoor.gc
open Go.RowKit

/-- The right number that all calls take n as. -/
def near (n : Int) : Int := if n < 0 then 0 else if 1099511627776 < n then 1099511627776 else n
theorem near_range (n : Int) : 0 ≤ near n ∧ near n ≤ 1099511627776 := by unfold near; split <;> (try split) <;> omega
theorem near_of (n : Int) (h0 : 0 ≤ n) (h1 : n ≤ 1099511627776) : near n = n := by unfold near; split <;> (try split) <;> omega
set_option maxHeartbeats 400000 in
theorem rnear_any (n : Int) (w : World) : Calls Tryz.prog 73 #[.int .i64 n] w fun e w' => e = .returned (.int .i64 (near n)) ∧ w = w' := by
  go_enter Tryz.func73, Tryz.ntmps73
  go_wp2_with (go_in)
  all_goals go_ret
  all_goals exact ⟨ret_int (by unfold near; (repeat' split at *) <;> omega), rfl⟩

/-- How many of these are not above x, from the first one on. -/
def readyN (A : List Int) (x : Int) : Nat := (A.takeWhile fun d => decide (d ≤ x)).length
theorem ready_le (A : List Int) (x : Int) : readyN A x ≤ A.length := by
  have h := congrArg List.length (List.takeWhile_append_dropWhile (p := fun d => decide (d ≤ x)) (l := A))
  rw [List.length_append] at h
  unfold readyN
  omega
theorem ready_yes {A : List Int} {x : Int} {k : Nat} (h : k < readyN A x) : A.getD k 0 ≤ x := by
  induction A generalizing k with
  | nil => simp [readyN] at h
  | cons d r ih =>
    simp only [readyN, List.takeWhile_cons] at h
    split at h
    · rename_i hd
      cases k with
      | zero => simpa using hd
      | succ k => exact ih (k := k) (by unfold readyN; simpa using h)
    · simp at h
theorem ready_no {A : List Int} {x : Int} (h : readyN A x < A.length) : x < A.getD (readyN A x) 0 := by
  induction A with
  | nil => simp at h
  | cons d r ih =>
    by_cases hd : d ≤ x
    · have e : readyN (d :: r) x = readyN r x + 1 := by simp [readyN, hd]
      rw [e] at h ⊢
      exact ih (by simpa using h)
    · have e : readyN (d :: r) x = 0 := by simp [readyN, hd]
      rw [e]
      show x < d
      omega
theorem ready_is {A : List Int} {x : Int} {n : Nat} (hn : n ≤ A.length) (h1 : ∀ j, j < n → A.getD j 0 ≤ x) (h2 : n < A.length → x < A.getD n 0) : readyN A x = n := by
  have h := ready_le A x
  rcases Nat.lt_trichotomy (readyN A x) n with e | e | e
  · have a := ready_no (A := A) (x := x) (by omega)
    have b := h1 _ e
    omega
  · exact e
  · have a := ready_yes e
    have b := h2 (by omega)
    omega

/-- The document's cargo in a block. -/
theorem box_cells {w w1 : World} {g : Nat} {S : ByteArray} {v : Value} {last : Int} {T : TypeId} {fr : Nat × Nat} (h : w.heap[g]? = some (.cells #[.string S, v, .int .i64 last] T fr)) (hb : Below w.heap.size w w1) :
    w1.cell? ⟨g, 0, none⟩ = some (.string S) ∧ w1.cell? ⟨g, 1, none⟩ = some v ∧ w1.cell? ⟨g, 2, none⟩ = some (.int .i64 last) := by
  have h1 := (hb.block _ (blk_lt h)).trans h
  exact ⟨cell_of_row _ _ 0 _ _ _ h1, cell_of_row _ _ 1 _ _ _ h1, cell_of_row _ _ 2 _ _ _ h1⟩
end Go.Proofs.YtmghkcjljnlocaaGreatDoor.gc

/-
  Contracts: what the document's own Near and Ready answer. Conditions: as each states.
-/
import Derived.Test.YtmblgpejgdlakaaA
namespace Go.Proofs.Ytmblgpejgdlakaa
open Go.RowKit

/-- The right number that all calls take n as. -/
def near (n : Int) : Int := if n < 0 then 0 else if 1099511627776 < n then 1099511627776 else n
theorem near_range (n : Int) : 0 ≤ near n ∧ near n ≤ 1099511627776 := by unfold near; split <;> (try split) <;> omega
theorem near_of (n : Int) (h0 : 0 ≤ n) (h1 : n ≤ 1099511627776) : near n = n := by unfold near; split <;> (try split) <;> omega
set_option maxHeartbeats 400000 in
theorem rnear_any (n : Int) (w : World) : Calls Try.prog 39 #[.int .i64 n] w fun e w' => e = .returned (.int .i64 (near n)) ∧ w = w' := by
  go_enter Try.func39, Try.ntmps39
  go_wp2_with (go_in)
  all_goals go_ret
  all_goals exact ⟨ret_int (by unfold near; (repeat' split at *) <;> omega), rfl⟩

/-- How many of these are not above x, from the first one on. -/
def readyN (A : List Int) (x : Int) : Nat := (A.takeWhile fun d => decide (d ≤ x)).length
theorem ready_le (A : List Int) (x : Int) : readyN A x ≤ A.length := by
  have h := congrArg List.length (List.takeWhile_append_dropWhile (p := fun d => decide (d ≤ x)) (l := A))
  rw [List.length_append] at h
  unfold readyN
  omega
theorem ready_yes {A : List Int} {x : Int} {k : Nat} (h : k < readyN A x) : A.getD k 0 ≤ x := by
  induction A generalizing k with
  | nil => simp [readyN] at h
  | cons d r ih =>
    simp only [readyN, List.takeWhile_cons] at h
    split at h
    · rename_i hd
      cases k with
      | zero => simpa using hd
      | succ k => exact ih (k := k) (by unfold readyN; simpa using h)
    · simp at h
theorem ready_no {A : List Int} {x : Int} (h : readyN A x < A.length) : x < A.getD (readyN A x) 0 := by
  induction A with
  | nil => simp at h
  | cons d r ih =>
    by_cases hd : d ≤ x
    · have e : readyN (d :: r) x = readyN r x + 1 := by simp [readyN, hd]
      rw [e] at h ⊢
      exact ih (by simpa using h)
    · have e : readyN (d :: r) x = 0 := by simp [readyN, hd]
      rw [e]
      show x < d
      omega
theorem ready_is {A : List Int} {x : Int} {n : Nat} (hn : n ≤ A.length) (h1 : ∀ j, j < n → A.getD j 0 ≤ x) (h2 : n < A.length → x < A.getD n 0) : readyN A x = n := by
  have h := ready_le A x
  rcases Nat.lt_trichotomy (readyN A x) n with e | e | e
  · have a := ready_no (A := A) (x := x) (by omega)
    have b := h1 _ e
    omega
  · exact e
  · have a := ready_yes e
    have b := h2 (by omega)
    omega

/-- The document's cargo in a block. -/
theorem box_cells {w w1 : World} {g : Nat} {S : ByteArray} {v : Value} {last : Int} {T : TypeId} {fr : Nat × Nat} (h : w.heap[g]? = some (.cells #[.string S, v, .int .i64 last] T fr)) (hb : Below w.heap.size w w1) :
    w1.cell? ⟨g, 0, none⟩ = some (.string S) ∧ w1.cell? ⟨g, 1, none⟩ = some v ∧ w1.cell? ⟨g, 2, none⟩ = some (.int .i64 last) := by
  have h1 := (hb.block _ (blk_lt h)).trans h
  exact ⟨cell_of_row _ _ 0 _ _ _ h1, cell_of_row _ _ 1 _ _ _ h1, cell_of_row _ _ 2 _ _ _ h1⟩
set_option maxRecDepth 100000 in
set_option maxHeartbeats 8000000 in
theorem rready_any (S : ByteArray) (p : Option Addr) (n c : Nat) (A : List Int) (last x : Int) (w : World) (hA : A.length = n) (hS : S.size = n) (hbig : n ≤ 100000) (hi : IntsIn w p n A) :
    Calls Try.prog 17 #[.agg #[.string S, .slice p n c, .int .i64 last], .int .i64 x] w fun e w' => e = .returned (.int .i64 (readyN A x : Int)) ∧ Below w.heap.size w w' := by
  have HI := Lib.hid hi
  have HX := Lib.hid hA
  obtain ⟨N, hN⟩ : ∃ N, readyN A x = N := ⟨_, rfl⟩
  rw [hN]
  have HNN := Lib.hid hN
  have HNL := Lib.hid (show N ≤ n by rw [← hN, ← hA]; exact ready_le _ _)
  have HS := Lib.hid hS
  clear hi hA hN
  go_enter Try.func17, Try.ntmps17
  go_wp2_with fail
  have HB0 := Lib.hid (heap_alloc_new w (.cells #[.string S, .slice p n c, .int .i64 last] 29))
  have HW1 := Lib.hid (show Below w.heap.size w (w.alloc (.cells #[.string S, .slice p n c, .int .i64 last] 29)) from (Below.refl _ _).alloc (Nat.le_refl _) _)
  have HI1 := Lib.hid (ints_on HI.out HW1.out)
  have HBW := Lib.hid (show ∀ w', Below (w.alloc (.cells #[.string S, .slice p n c, .int .i64 last] 29)).heap.size (w.alloc (.cells #[.string S, .slice p n c, .int .i64 last] 29)) w' → Below w.heap.size w w' from fun w' h => seqB HW1.out h)
  generalize w.alloc (.cells #[.string S, .slice p n c, .int .i64 last] 29) = w1 at *
  clear HI HW1
  go_loopw [5] (fun i wr => ∃ (k : Nat), k ≤ N ∧ i = .int .i64 k ∧ Hid (Below w1.heap.size w1 wr)) (fun i _ => n - (intOf i).toNat)
  case atStart => exact ⟨0, by omega, rfl, Lib.hid (Below.refl _ _)⟩
  case round =>
    obtain ⟨k, hk, rfl, HB⟩ := hrel
    obtain ⟨x0, x1, x2⟩ := box_cells HB0.out HB.out
    by_cases hkN : k < N
    · have HKN := Lib.hid hkN
      have hkn : k < n := by have := HNL.out; omega
      have HKn := Lib.hid hkn
      obtain ⟨b, o, rfl, hcell⟩ := ints_on HI1.out HB.out (by omega)
      have g0 := hcell k hkn
      have hle := ready_yes (A := A) (x := x) (k := k) (by rw [HNN.out]; exact hkN)
      generalize A.getD k 0 = v at g0 hle
      have dv : decide (v ≤ x) = true := by simpa using hle
      have dk : decide ((k : Int) < (S.size : Int)) = true := by simp; omega
      clear hcell
      go_wp2_with fail
      go_roundw
      case rel => exact ⟨k + 1, HKN.out, by go_num, HB⟩
      case measure => have := HKn.out; simp [intOf]; omega
    · obtain rfl : k = N := by omega
      by_cases hkn : k < n
      · obtain ⟨b, o, rfl, hcell⟩ := ints_on HI1.out HB.out (by omega)
        have g0 := hcell k hkn
        have hgt := ready_no (A := A) (x := x) (by rw [HNN.out, HX.out]; exact hkn)
        rw [HNN.out] at hgt
        generalize A.getD k 0 = v at g0 hgt
        have dv : decide (v ≤ x) = false := by simp; omega
        have dk : decide ((k : Int) < (S.size : Int)) = true := by simp; omega
        clear hcell
        go_wp2_with fail
        go_ret
        exact ⟨rfl, HBW.out _ HB.out⟩
      · have dk : decide ((k : Int) < (S.size : Int)) = false := by simp; omega
        go_wp2_with fail
        go_ret
        exact ⟨rfl, HBW.out _ HB.out⟩
end Go.Proofs.Ytmblgpejgdlakaa

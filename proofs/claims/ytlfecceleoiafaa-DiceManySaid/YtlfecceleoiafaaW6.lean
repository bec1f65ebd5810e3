/-
  Contracts: what dice.Many and Stream, and the document's own Stream answer. Conditions: as each states.
-/
import Derived.Test.YtlfecceleoiafaaW5
import Derived.Laws.MakeOwn
namespace Go.Proofs.Ytlfecceleoiafaa
open Go.RowKit

/-- The state behind k steps. -/
def stN (s : Int) : Nat → Int
  | 0 => s
  | k + 1 => stepZ (stN s k)

theorem info22 : (Try.prog.info? 22).map (fun i => (i.zero, i.size, i.bytes)) = some (some (.int .u64 0), 1, 8) := by kernel_rfl
theorem make_any (n : Nat) (h : n ≤ 1000) (w : World) : (Instr.makeSlice 29 (.int .i64 (n : Int)) (.int .i64 (n : Int))).run Try.prog w = .ok (.slice (some ⟨w.heap.size, 0, none⟩) n n) (w.alloc (.cells (madeCells #[.int .u64 0] n) 22)) := by
  obtain ⟨i0, hi0, hz0, hz1, hz2⟩ := info_parts info22
  have hr := run_make (P := Try.prog) w 29 22 i0 _ Try.underlying29 hi0 hz0 .i64 .i64 n n (by omega) (by omega) (by rw [hz2]; omega) (by omega)
  rw [hz1] at hr
  simp only [Int.toNat_natCast, Nat.mul_one] at hr
  exact hr

set_option maxHeartbeats 800000 in
theorem many_mid (s : Int) (n : Nat) (h1 : n ≤ 1000) (w : World) : Calls Try.prog 16 #[.int .u64 s, .int .i64 n] w fun e w' =>
    ∃ cs : Array Value, e = .returned (.tuple #[.slice (some ⟨w.heap.size, 0, none⟩) n n, .int .u64 (stN s n)]) ∧ w' = w.alloc (.cells cs 22) ∧ cs.size = n ∧ ∀ k, k < n → cs[k]? = some (.int .u64 (mixZ (stN s (k + 1)))) := by
  have hmk := make_any n h1
  have d0 : decide ((n : Int) < 0) = false := by simp
  have d1 : decide ((1000 : Int) < n) = false := by simp; omega
  go_enter Try.func16, Try.ntmps16
  go_wp2_with fail
  clear hmk
  go_loopw [0, 14] (fun a i w' => ∃ (k : Nat) (cs : Array Value), k ≤ n ∧ i = .int .i64 k ∧ a = .int .u64 (stN s k) ∧ w' = w.alloc (.cells cs 22) ∧ Hid (cs.size = n) ∧ Hid (∀ j, j < k → cs[j]? = some (.int .u64 (mixZ (stN s (j + 1)))))) (fun _ i _ => n - (intOf i).toNat)
  case atStart => exact ⟨0, _, by omega, rfl, rfl, rfl, Lib.hid (size_madeCells _ _), Lib.hid (fun j hj => by omega)⟩
  case round =>
    obtain ⟨k, cs, hk, rfl, rfl, rfl, HS, HC⟩ := hrel
    by_cases hlt : k < n
    · have c0 : decide ((k : Int) < (n : Int)) = true := by simp; omega
      obtain ⟨v, hv⟩ : ∃ v, cs[k]? = some v := ⟨_, Array.getElem?_eq_getElem (by have := HS.out; omega)⟩
      go_wp2_with fail
      refine (next_any _ _).mono ?_
      rintro e w1 ⟨rfl, rfl⟩
      go_wp2_with fail
      go_roundw
      case rel => exact ⟨k + 1, cs.setIfInBounds k (.int .u64 (mixZ (stN s (k + 1)))), by omega, by simp, rfl, rfl, Lib.hid (by simp [HS.out]), Lib.hid (fun j hj => by
          rw [Array.getElem?_setIfInBounds]
          by_cases e : k = j
          · subst e
            rw [if_pos rfl, if_pos (by have := HS.out; omega)]
          · rw [if_neg e]
            exact HC.out j (by omega))⟩
      case measure => simp [intOf]; omega
    · obtain rfl : k = n := by omega
      go_wp2_with fail
      go_ret2
      exact ⟨cs, rfl, rfl, HS.out, HC.out⟩

set_option maxHeartbeats 800000 in
theorem many_high (s z : Int) (hz : 1000 < z) (w : World) : Calls Try.prog 16 #[.int .u64 s, .int .i64 z] w fun e w' =>
    ∃ cs : Array Value, e = .returned (.tuple #[.slice (some ⟨w.heap.size, 0, none⟩) 1000 1000, .int .u64 (stN s 1000)]) ∧ w' = w.alloc (.cells cs 22) ∧ cs.size = 1000 ∧ ∀ k, k < 1000 → cs[k]? = some (.int .u64 (mixZ (stN s (k + 1)))) := by
  have hmk := fun w => make_any 1000 (by omega) w
  simp only [show ((1000 : Nat) : Int) = 1000 from rfl] at hmk
  have d0 : decide (z < 0) = false := by simp; omega
  have d1 : decide ((1000 : Int) < z) = true := by simp; omega
  go_enter Try.func16, Try.ntmps16
  go_wp2_with fail
  clear hmk
  go_loopw [0, 14] (fun a i w' => ∃ (k : Nat) (cs : Array Value), k ≤ 1000 ∧ i = .int .i64 k ∧ a = .int .u64 (stN s k) ∧ w' = w.alloc (.cells cs 22) ∧ Hid (cs.size = 1000) ∧ Hid (∀ j, j < k → cs[j]? = some (.int .u64 (mixZ (stN s (j + 1)))))) (fun _ i _ => 1000 - (intOf i).toNat)
  case atStart => exact ⟨0, _, by omega, rfl, rfl, rfl, Lib.hid (size_madeCells _ _), Lib.hid (fun j hj => by omega)⟩
  case round =>
    obtain ⟨k, cs, hk, rfl, rfl, rfl, HS, HC⟩ := hrel
    by_cases hlt : k < 1000
    · have c0 : decide ((k : Int) < 1000) = true := by simp; omega
      obtain ⟨v, hv⟩ : ∃ v, cs[k]? = some v := ⟨_, Array.getElem?_eq_getElem (by have := HS.out; omega)⟩
      go_wp2_with fail
      refine (next_any _ _).mono ?_
      rintro e w1 ⟨rfl, rfl⟩
      go_wp2_with fail
      go_roundw
      case rel => exact ⟨k + 1, cs.setIfInBounds k (.int .u64 (mixZ (stN s (k + 1)))), by omega, by simp, rfl, rfl, Lib.hid (by simp [HS.out]), Lib.hid (fun j hj => by
          rw [Array.getElem?_setIfInBounds]
          by_cases e : k = j
          · subst e
            rw [if_pos rfl, if_pos (by have := HS.out; omega)]
          · rw [if_neg e]
            exact HC.out j (by omega))⟩
      case measure => simp [intOf]; omega
    · obtain rfl : k = 1000 := by omega
      go_wp2_with fail
      go_ret2
      exact ⟨cs, rfl, rfl, HS.out, HC.out⟩

set_option maxHeartbeats 800000 in
theorem many_low (s z : Int) (hz : z < 0) (w : World) : Calls Try.prog 16 #[.int .u64 s, .int .i64 z] w fun e w' =>
    ∃ cs : Array Value, e = .returned (.tuple #[.slice (some ⟨w.heap.size, 0, none⟩) 0 0, .int .u64 (stN s 0)]) ∧ w' = w.alloc (.cells cs 22) ∧ cs.size = 0 ∧ ∀ k, k < 0 → cs[k]? = some (.int .u64 (mixZ (stN s (k + 1)))) := by
  have hmk := fun w => make_any 0 (by omega) w
  simp only [show ((0 : Nat) : Int) = 0 from rfl] at hmk
  have d0 : decide (z < 0) = true := by simp; omega
  go_enter Try.func16, Try.ntmps16
  go_wp2_with fail
  clear hmk
  go_loopw [0, 14] (fun a i w' => i = .int .i64 0 ∧ a = .int .u64 s ∧ w' = w.alloc (.cells (madeCells #[.int .u64 0] 0) 22)) (fun _ i _ => 0)
  case atStart => exact ⟨rfl, rfl, rfl⟩
  case round =>
    obtain ⟨rfl, rfl, rfl⟩ := hrel
    go_wp2_with fail
    go_ret2
    exact ⟨_, rfl, rfl, size_madeCells _ _, fun k hk => by omega⟩

/-- Many, whatever is asked for: n of them. -/
theorem many_any (s z : Int) (n : Nat) (hn : (n : Int) = min (max z 0) 1000) (w : World) : Calls Try.prog 16 #[.int .u64 s, .int .i64 z] w fun e w' =>
    ∃ cs : Array Value, e = .returned (.tuple #[.slice (some ⟨w.heap.size, 0, none⟩) n n, .int .u64 (stN s n)]) ∧ w' = w.alloc (.cells cs 22) ∧ cs.size = n ∧ ∀ k, k < n → cs[k]? = some (.int .u64 (mixZ (stN s (k + 1)))) := by
  by_cases h : z < 0
  · obtain rfl : n = 0 := by omega
    exact many_low s z h w
  · by_cases h2 : 1000 < z
    · obtain rfl : n = 1000 := by omega
      exact many_high s z h2 w
    · obtain rfl : z = n := by omega
      exact many_mid s n (by omega) w
end Go.Proofs.Ytlfecceleoiafaa

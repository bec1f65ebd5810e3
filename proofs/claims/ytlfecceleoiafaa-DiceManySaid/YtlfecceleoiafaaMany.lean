/-
  The walk of chicanelaw02.DiceMany: it returns true, whatever state and number. Conditions: none.
-/
import Derived.Test.YtlfecceleoiafaaW8
import Derived.ProofKit
import Derived.OpenShut
namespace Go.Proofs.Ytlfecceleoiafaa.diceMany
open Go.RowKit

set_option maxHeartbeats 800000 in
theorem walk_mid (s : Int) (n : Nat) (h1 : n ≤ 1000) (w : World) :
    Calls Try.prog 4 #[.int .u64 s, .int .i64 n] w fun e w' => e = .returned (.bool true) ∧ Below w.heap.size w w' := by
  have d0 : decide ((n : Int) < 0) = false := by simp
  have d1 : decide ((1000 : Int) < n) = false := by simp; omega
  go_enter Try.func4, Try.ntmps4
  go_wp2_with fail
  refine (many_mid s n h1 _).mono ?_
  rintro e w1 ⟨cs, rfl, hw1, hsz, hc⟩
  have HC := Lib.hid (show ∀ k, k < n → w1.cell? ⟨w.heap.size, k, none⟩ = some (.int .u64 (mixZ (stN s (k + 1)))) from fun k hk => by rw [hw1, World.cell?_alloc_at _ _ _ _ rfl]; exact hc k hk)
  have HB := Lib.hid (show Below w.heap.size w w1 by rw [hw1]; exact (Below.refl _ _).alloc (Nat.le_refl _) _)
  have hlt1 : w.heap.size < w1.heap.size := by rw [hw1]; simp
  clear hw1 hsz hc
  go_wp2_with fail
  go_loopw [0, 25] (fun a i w' => ∃ (k : Nat), k ≤ n ∧ i = .int .i64 k ∧ a = .int .u64 (stN s k) ∧ Hid (Below w1.heap.size w1 w')) (fun _ i _ => n - (intOf i).toNat)
  case atStart => exact ⟨0, by omega, rfl, rfl, Lib.hid (Below.refl _ _)⟩
  case round =>
    obtain ⟨k, hk, rfl, rfl, HB1⟩ := hrel
    by_cases hlt : k < n
    · have c0 : decide ((k : Int) < (n : Int)) = true := by simp; omega
      have c1 : decide ((n : Int) ≤ (k : Int)) = false := by simp; omega
      have g := (HB1.out.cell (p := ⟨w.heap.size, k, none⟩) hlt1).trans (HC.out k hlt)
      go_wp2_with fail
      refine (rstep_any _ _).mono ?_
      rintro e w2 ⟨rfl, rfl⟩
      go_wp2_with fail
      refine (rmix_any _ (stepZ_range _).1 (stepZ_range _).2 _).mono ?_
      rintro e w2 ⟨rfl, hb2⟩
      have HB2 := Lib.hid hb2
      clear hb2
      rw [show stN s (k + 1) = stepZ (stN s k) from rfl]
      go_wp2_with fail
      go_roundw
      case rel => exact ⟨k + 1, by omega, by go_num, rfl, Lib.hid (seqB HB1.out HB2.out)⟩
      case measure => simp [intOf]; omega
    · obtain rfl : k = n := by omega
      go_wp2_with fail
      refine (alive_any _).mono ?_
      rintro e w2 ⟨rfl, hb2⟩
      have HB2 := Lib.hid hb2
      clear hb2
      go_wp2_with fail
      go_ret
      exact ⟨rfl, seqB HB.out (seqB HB1.out HB2.out)⟩

set_option maxHeartbeats 800000 in
theorem walk_high (s z : Int) (hz : 1000 < z) (w : World) :
    Calls Try.prog 4 #[.int .u64 s, .int .i64 z] w fun e w' => e = .returned (.bool true) ∧ Below w.heap.size w w' := by
  have d0 : decide (z < 0) = false := by simp; omega
  have d1 : decide ((1000 : Int) < z) = true := by simp; omega
  go_enter Try.func4, Try.ntmps4
  go_wp2_with fail
  refine (many_high s z hz _).mono ?_
  rintro e w1 ⟨cs, rfl, hw1, hsz, hc⟩
  have HC := Lib.hid (show ∀ k, k < 1000 → w1.cell? ⟨w.heap.size, k, none⟩ = some (.int .u64 (mixZ (stN s (k + 1)))) from fun k hk => by rw [hw1, World.cell?_alloc_at _ _ _ _ rfl]; exact hc k hk)
  have HB := Lib.hid (show Below w.heap.size w w1 by rw [hw1]; exact (Below.refl _ _).alloc (Nat.le_refl _) _)
  have hlt1 : w.heap.size < w1.heap.size := by rw [hw1]; simp
  clear hw1 hsz hc
  go_wp2_with fail
  go_loopw [0, 25] (fun a i w' => ∃ (k : Nat), k ≤ 1000 ∧ i = .int .i64 k ∧ a = .int .u64 (stN s k) ∧ Hid (Below w1.heap.size w1 w')) (fun _ i _ => 1000 - (intOf i).toNat)
  case atStart => exact ⟨0, by omega, rfl, rfl, Lib.hid (Below.refl _ _)⟩
  case round =>
    obtain ⟨k, hk, rfl, rfl, HB1⟩ := hrel
    by_cases hlt : k < 1000
    · have c0 : decide ((k : Int) < 1000) = true := by simp; omega
      have c1 : decide (1000 ≤ (k : Int)) = false := by simp; omega
      have g := (HB1.out.cell (p := ⟨w.heap.size, k, none⟩) hlt1).trans (HC.out k hlt)
      go_wp2_with fail
      refine (rstep_any _ _).mono ?_
      rintro e w2 ⟨rfl, rfl⟩
      go_wp2_with fail
      refine (rmix_any _ (stepZ_range _).1 (stepZ_range _).2 _).mono ?_
      rintro e w2 ⟨rfl, hb2⟩
      have HB2 := Lib.hid hb2
      clear hb2
      rw [show stN s (k + 1) = stepZ (stN s k) from rfl]
      go_wp2_with fail
      go_roundw
      case rel => exact ⟨k + 1, by omega, by go_num, rfl, Lib.hid (seqB HB1.out HB2.out)⟩
      case measure => simp [intOf]; omega
    · obtain rfl : k = 1000 := by omega
      go_wp2_with fail
      refine (alive_any _).mono ?_
      rintro e w2 ⟨rfl, hb2⟩
      have HB2 := Lib.hid hb2
      clear hb2
      go_wp2_with fail
      go_ret
      exact ⟨rfl, seqB HB.out (seqB HB1.out HB2.out)⟩

set_option maxHeartbeats 800000 in
theorem walk_low (s z : Int) (hz : z < 0) (w : World) :
    Calls Try.prog 4 #[.int .u64 s, .int .i64 z] w fun e w' => e = .returned (.bool true) ∧ Below w.heap.size w w' := by
  have d0 : decide (z < 0) = true := by simp; omega
  go_enter Try.func4, Try.ntmps4
  go_wp2_with fail
  refine (many_low s z hz _).mono ?_
  rintro e w1 ⟨cs, rfl, hw1, hsz, hc⟩
  have HB := Lib.hid (show Below w.heap.size w w1 by rw [hw1]; exact (Below.refl _ _).alloc (Nat.le_refl _) _)
  clear hw1 hsz hc
  rw [show stN s 0 = s from rfl]
  go_wp2_with fail
  go_loop [0, 25] (fun a i => i = .int .i64 0 ∧ a = .int .u64 s) (fun _ i => 0)
  case atStart => exact ⟨rfl, rfl⟩
  case round =>
    obtain ⟨rfl, rfl⟩ := hrel
    go_wp2_with fail
    refine (alive_any _).mono ?_
    rintro e w2 ⟨rfl, hb2⟩
    have HB2 := Lib.hid hb2
    clear hb2
    go_wp2_with fail
    go_ret
    exact ⟨rfl, seqB HB.out HB2.out⟩

theorem walk (a0 a1 : Int) (_w0 : (Lit.int .u64 a0).wf = true) (_w1 : (Lit.int .i64 a1).wf = true) (w : World) :
    Calls Try.prog 4 #[.int .u64 a0, .int .i64 a1] w fun e w' => e = .returned (.bool true) ∧ Below w.heap.size w w' := by
  by_cases h : a1 < 0
  · exact walk_low a0 a1 h w
  · by_cases h2 : 1000 < a1
    · exact walk_high a0 a1 h2 w
    · obtain ⟨n, rfl⟩ := Int.eq_ofNat_of_zero_le (show 0 ≤ a1 by omega)
      exact walk_mid a0 n (by omega) w
end Go.Proofs.Ytlfecceleoiafaa.diceMany

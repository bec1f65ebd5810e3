/-
  Contracts: what compare, ahead, above and right answer. Conditions: as each states.
-/
import Derived.Test.YtpohfcjmjfhdoaaH
namespace Go.Proofs.Ytpohfcjmjfhdoaa
open Go.RowKit

set_option maxHeartbeats 2000000 in
theorem nan_any (x : Int) (w : World) : Calls Try.prog 57 #[.int .i64 x] w fun e w' => e = .returned (.bool false) ∧ w = w' := by
  go_enter Try.func57, Try.ntmps57
  go_wp2_with fail
  go_ret
  exact ⟨ret_bool (by simp), rfl⟩
def cmpI (x y : Int) : Int := if x < y then -1 else if y < x then 1 else 0
set_option maxHeartbeats 2000000 in
theorem cmp_any (x y : Int) (w : World) : Calls Try.prog 43 #[.int .i64 x, .int .i64 y] w fun e w' => e = .returned (.int .i64 (cmpI x y)) ∧ w = w' := by
  by_cases h : x < y
  · have hc : cmpI x y = -1 := by simp [cmpI, h]
    rw [hc]
    clear hc
    have d0 : decide (x < y) = true := by simpa using h
    go_enter Try.func43, Try.ntmps43
    go_wp2_with (go_at_call 57; refine (nan_any _ _).mono ?_; rintro e w' ⟨rfl, rfl⟩)
    go_ret
    exact ⟨rfl, rfl⟩
  · have d0 : decide (x < y) = false := by simpa using h
    by_cases h' : y < x
    · have hc : cmpI x y = 1 := by simp [cmpI, h, h']
      rw [hc]
      clear hc
      go_enter Try.func43, Try.ntmps43
      go_wp2_with (go_at_call 57; refine (nan_any _ _).mono ?_; rintro e w' ⟨rfl, rfl⟩)
      go_ret
      exact ⟨rfl, rfl⟩
    · have hc : cmpI x y = 0 := by simp [cmpI, h, h']
      rw [hc]
      clear hc
      go_enter Try.func43, Try.ntmps43
      go_wp2_with (go_at_call 57; refine (nan_any _ _).mono ?_; rintro e w' ⟨rfl, rfl⟩)
      go_ret
      exact ⟨rfl, rfl⟩
def orI (x y : Int) : Int := if x = 0 then y else x
set_option maxHeartbeats 2000000 in
theorem or_any (b o : Nat) (x y : Int) (w : World) (h0 : w.cell? ⟨b, o, none⟩ = some (.int .i64 x)) (h1 : w.cell? ⟨b, o + 1, none⟩ = some (.int .i64 y)) :
    Calls Try.prog 42 #[.slice (some ⟨b, o, none⟩) 2 2] w fun e w' => e = .returned (.int .i64 (orI x y)) ∧ w = w' := by
  obtain ⟨F, HF⟩ : ∃ F, Hid (orI x y = F) := ⟨_, Lib.hid rfl⟩
  rw [HF.out]
  go_enter Try.func42, Try.ntmps42
  go_wp2_with fail
  go_loopw [8] (fun i wr => ∃ (k : Nat), k ≤ 2 ∧ i = .int .i64 k ∧ wr = w ∧ Hid (0 < k → x = 0) ∧ Hid (1 < k → y = 0)) (fun i _ => 2 - (intOf i).toNat)
  case atStart => exact ⟨0, by omega, rfl, rfl, Lib.hid (fun h => absurd h (by omega)), Lib.hid (fun h => absurd h (by omega))⟩
  case round =>
    obtain ⟨k, hk, rfl, rfl, HX, HY⟩ := hrel
    obtain rfl | rfl | rfl : k = 0 ∨ k = 1 ∨ k = 2 := by omega
    · by_cases hx : x = 0
      · have HR := Lib.hid (fun (_ : 0 < 1) => hx)
        have d0 : (x == 0) = true := by simpa using hx
        clear hx
        go_wp2_with fail
        go_roundw
        case rel => exact ⟨1, by omega, by go_num, trivial, HR, Lib.hid (fun h => absurd h (by omega))⟩
        case measure => simp [intOf]
      · have HR := Lib.hid (show F = x by rw [← HF.out]; unfold orI; rw [if_neg hx])
        have d0 : (x == 0) = false := by simpa using hx
        go_wp2_with fail
        go_ret
        exact ⟨ret_int HR.out.symm, rfl⟩
    · by_cases hy : y = 0
      · have HR := Lib.hid (show F = 0 by rw [← HF.out]; unfold orI; rw [if_pos (HX.out (by omega)), hy])
        have HS := Lib.hid (fun (_ : 1 < 2) => hy)
        have d0 : (y == 0) = true := by simpa using hy
        clear hy
        go_wp2_with fail
        go_roundw
        case rel => exact ⟨2, by omega, by go_num, trivial, Lib.hid (fun _ => HX.out (by omega)), HS⟩
        case measure => simp [intOf]
      · have HR := Lib.hid (show F = y by rw [← HF.out]; unfold orI; rw [if_pos (HX.out (by omega))])
        have d0 : (y == 0) = false := by simpa using hy
        go_wp2_with fail
        go_ret
        exact ⟨ret_int HR.out.symm, rfl⟩
    · have HR := Lib.hid (show F = 0 by rw [← HF.out]; unfold orI; rw [if_pos (HX.out (by omega))]; exact HY.out (by omega))
      go_wp2_with fail
      go_ret
      exact ⟨ret_int HR.out.symm, rfl⟩
set_option maxHeartbeats 2000000 in
theorem above_any (k : Nat) (hk : k ≤ 1000000) (w : World) : Calls Try.prog 34 #[.int .i64 k] w fun e w' => e = .returned (.int .i64 (up k : Int)) ∧ w = w' := by
  have e1 : Int.tdiv ((k : Int) - 1) 2 = (up k : Int) := by
    unfold up
    rcases Nat.eq_zero_or_pos k with rfl | h
    · decide
    · rw [Int.tdiv_eq_ediv_of_nonneg (by omega)]
      omega
  have HE := Lib.hid e1
  clear e1
  go_enter Try.func34, Try.ntmps34
  go_wp2_with fail
  go_ret
  refine ⟨ret_int ?_, rfl⟩
  rw [← HE.out]
set_option maxHeartbeats 2000000 in
theorem right_code (x : Int) (w : World) : Calls Try.prog 35 #[.int .i64 x] w fun e w' => e = .returned (.bool (rightB x)) ∧ w = w' := by
  by_cases h : 0 ≤ x
  · have d0 : decide (0 ≤ x) = true := by simpa using h
    by_cases h' : x ≤ 1099511627776
    · have hb : rightB x = true := by simp [rightB]; omega
      have d1 : decide (x ≤ 1099511627776) = true := by simpa using h'
      rw [hb]
      clear hb
      go_enter Try.func35, Try.ntmps35
      go_wp2_with fail
      go_ret
      exact ⟨ret_bool (by simp), rfl⟩
    · have hb : rightB x = false := by simp [rightB]; omega
      have d1 : decide (x ≤ 1099511627776) = false := by simpa using h'
      rw [hb]
      clear hb
      go_enter Try.func35, Try.ntmps35
      go_wp2_with fail
      go_ret
      exact ⟨ret_bool (by simp), rfl⟩
  · have hb : rightB x = false := by simp [rightB]; omega
    have d0 : decide (0 ≤ x) = false := by simpa using h
    rw [hb]
    clear hb
    go_enter Try.func35, Try.ntmps35
    go_wp2_with fail
    go_ret
    exact ⟨ret_bool (by simp), rfl⟩
end Go.Proofs.Ytpohfcjmjfhdoaa

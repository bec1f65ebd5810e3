/-
  Contracts: what the document's own Get answers. Conditions: as each states.
-/
import Derived.Test.YtanbggegbhcfhaaW9
namespace Go.Proofs.Ytanbggegbhcfhaa
open Go.RowKit

theorem str_taken (s : ByteArray) (m : Nat) : s.extract 0 m = strOfNums ((nums s).take m) := by
  apply ByteArray.ext
  apply Array.ext'
  have e : (strOfNums (nums s)).data.toList = s.data.toList := by rw [str_nums]
  rw [strOfNums_data] at e
  rw [strOfNums_data, List.map_take, e]
  simp [ByteArray.data_extract]
theorem mul_bd (q : Int) (k : Nat) (h0 : 0 ≤ q) (h1 : q < 128) (hk : k ≤ 8) : q * (128 ^ k : Nat) = ((q.toNat * 128 ^ k : Nat) : Int) ∧ q.toNat * 128 ^ k ≤ 9151314442816847872 := by
  constructor
  · rw [Int.natCast_mul, Int.toNat_of_nonneg h0]
  · exact Nat.le_trans (Nat.mul_le_mul (show q.toNat ≤ 127 by omega) (pow_le8 k hk)) (by decide)
theorem sum_fits (y T : Nat) (hy : y ≤ 72057594037927935) (hT : T ≤ 9151314442816847872) : (y : Int) + (T : Int) = ((y + T : Nat) : Int) ∧ ((y + T : Nat) : Int) ≤ 9223372036854775807 := by
  constructor
  · omega
  · omega
/-- Where a number ends: it, its text, and what stands there. -/
theorem end_yes {s : ByteArray} {k y : Nat} {q : Int} (HY : Ahead (nums s) k y) (hk : k < s.size) (h9 : k < 9) (hq : (nums s).getD k 0 = q) (h128 : q < 128) (h0 : ¬ (q = 0 ∧ 0 < k)) :
    getL (nums s) = (y + q.toNat * 128 ^ k, k + 1) ∧ strOfNums (numL (y + q.toNat * 128 ^ k)) = s.extract 0 (k + 1) := by
  have h := ahead_end HY (by rw [nums_length]; omega) h9 (by rw [hq]; exact h128) (by rw [hq]; exact h0)
  have h' := ahead_num HY (by rw [nums_length]; omega) (nums_all s) (by rw [hq]; exact h128) (by rw [hq]; exact h0)
  rw [hq] at h h'
  exact ⟨h, by rw [h', str_taken]⟩
theorem end_no {s : ByteArray} {k y : Nat} (HY : Ahead (nums s) k y) (hk : k < s.size) (h9 : k < 9) (hq : (nums s).getD k 0 = 0) (h0 : 0 < k) :
    getL (nums s) = (0, 0) ∧ ∀ m, ((strOfNums (numL m)).toList == (s.extract 0 (k + 1)).toList) = false := by
  refine ⟨ahead_none HY (by rw [nums_length]; omega) h9 hq h0, fun m => ?_⟩
  have h := ahead_other (xs := nums s) m (by rw [nums_length]; omega) hq h0
  rw [beq_eq_false_iff_ne]
  intro e
  apply h
  rw [str_taken, Lib.strOfNums_toList, Lib.strOfNums_toList] at e
  have e2 : nums (strOfNums (numL m)) = nums (strOfNums ((nums s).take (k + 1))) := by
    unfold nums
    rw [strOfNums_data, strOfNums_data]
    simp only [Lib.bytesOf] at e
    rw [e]
    rfl
  rw [nums_str _ (allB_num m), nums_str _ ((nums_all s).take _)] at e2
  exact e2

set_option maxHeartbeats 4000000 in
theorem rget_any (s : ByteArray) (_hs : s.size ≤ 5000) (w : World) : Calls Try.prog 12 #[.string s] w fun e w' => e = .returned (.tuple #[.int .i64 (getL (nums s)).1, .int .i64 (getL (nums s)).2]) ∧ Below w.heap.size w w' := by
  go_enter Try.func12, Try.ntmps12
  go_wp2_with fail
  go_loop [4, 5, 6] (fun x t i => ∃ (k y : Nat) (pw : Int), k ≤ 9 ∧ i = .int .i64 k ∧ x = .int .i64 y ∧ t = .int .i64 pw ∧ Hid (k ≤ 8 → pw = ((128 ^ k : Nat) : Int)) ∧ Hid (Ahead (nums s) k y)) (fun _ _ i => 9 - (intOf i).toNat)
  case atStart => exact ⟨0, 0, 1, by omega, rfl, rfl, rfl, Lib.hid (fun _ => rfl), Lib.hid (ahead_zero _)⟩
  case round =>
    obtain ⟨k, y, pw, hk, rfl, rfl, rfl, HPW, HY⟩ := hrel
    by_cases h9 : k < 9
    · by_cases hks : k < s.size
      · have hpw := HPW.out (by omega)
        have hp8 := pow_le8 k (by omega)
        have hyb : y < 128 ^ k := HY.out.2.1
        have hnu := nums_at s k hks
        have hbb := allB_getD (nums_all s) k
        obtain ⟨q, hq⟩ : ∃ q, (nums s).getD k 0 = q := ⟨_, rfl⟩
        rw [hq] at hnu hbb
        have HQ := Lib.hid hq
        clear hq
        obtain ⟨hm1, hm2⟩ := mul_bd (q % 128) k (by omega) (by omega) (by omega)
        obtain ⟨T, hT⟩ : ∃ T : Nat, T = (q % 128).toNat * 128 ^ k := ⟨_, rfl⟩
        rw [← hpw, ← hT] at hm1
        rw [← hT] at hm2
        have HT := Lib.hid hT
        have hpb : 0 ≤ pw ∧ pw ≤ 72057594037927936 := by omega
        have hyb' : y ≤ 72057594037927935 := by omega
        have HPN := Lib.hid (show k + 1 ≤ 8 → wrap64 (pw * 128) = ((128 ^ (k + 1) : Nat) : Int) from fun h => by
          rw [IntWalk.wrap64_in _ (by have := pow_le8 (k + 1) h; rw [Nat.pow_succ] at this; omega), hpw, Nat.pow_succ]
          omega)
        obtain ⟨N, hN⟩ : ∃ N : Nat, N = y + T := ⟨_, rfl⟩
        obtain ⟨eW, hN9⟩ := sum_fits y T hyb' hm2
        rw [← hN] at eW hN9
        have HNN := Lib.hid (show N = y + (q % 128).toNat * 128 ^ k by rw [hN, hT])
        clear hpw hp8 hyb hT HPW hN
        by_cases h128 : 128 ≤ q
        · go_wp2_with fail
          refine ⟨⟨k + 1, N, _, by omega, by go_num, by first | rfl | rw [eW], rfl, Lib.hid (HPN.out), Lib.hid ?_⟩, by simp [intOf]; omega⟩
          have h := ahead_succ HY.out (nums_all s) (by rw [nums_length]; exact hks) h9 (by rw [HQ.out]; exact h128)
          rw [HQ.out] at h
          rw [HNN.out, show (q % 128).toNat = q.toNat - 128 by omega]
          exact h
        · have k1 : IntKind.i64.wrap ((k : Int) + 1) = (k : Int) + 1 := IntWalk.i64_in _ (by omega)
          have k2 : (0 : Int) ≤ (k : Int) + 1 := by omega
          have k3 : ((k : Int) + 1).toNat = k + 1 := by omega
          have k4 : (k : Int) + 1 ≤ (s.size : Int) := by omega
          have hqq : (q % 128).toNat = q.toNat := by omega
          rw [hqq] at HNN
          clear hqq
          obtain ⟨A, HA⟩ : ∃ A, Hid (A = strOfNums (numI (N : Int))) := ⟨_, Lib.hid rfl⟩
          obtain ⟨E, hE⟩ : ∃ E, s.extract 0 (k + 1) = E := ⟨_, rfl⟩
          by_cases h0 : q = 0 ∧ 0 < k
          · obtain ⟨hG, hne⟩ := end_no HY.out hks h9 (by rw [HQ.out, h0.1]) h0.2
            have HG := Lib.hid hG
            have e0 : (A.toList == E.toList) = false := by rw [HA.out, ← hE, numI_nat]; exact hne N
            clear hG hne h0
            go_wp2_with fail
            go_region_held (fun w' => Below w.heap.size w w')
              ((first
                  | with_reducible exact Below.refl _ _
                  | with_reducible exact (Below.refl _ _).drew
                  | with_reducible assumption
                  | with_reducible exact Below.drew (by assumption)
                  | with_reducible exact seqB (by assumption) (by assumption)))
              (first
                | (go_at_call 14; (with_reducible refine Calls.mono (rnum_any (N : Int) hN9 A HA.out _) ?_); rintro e w' ⟨rfl, hb'⟩))
            all_goals
              go_wp2_with fail
              go_ret2
              rw [HG.out]
              exact ⟨rfl, by assumption⟩
          · obtain ⟨hG, hEq⟩ := end_yes HY.out hks h9 HQ.out (by omega) h0
            rw [← HNN.out] at hG hEq
            obtain rfl : E = A := by rw [HA.out, ← hE, numI_nat, hEq]
            have HG := Lib.hid hG
            clear hG hEq h0
            go_wp2_with fail
            go_region_held (fun w' => Below w.heap.size w w')
              ((first
                  | with_reducible exact Below.refl _ _
                  | with_reducible exact (Below.refl _ _).drew
                  | with_reducible assumption
                  | with_reducible exact Below.drew (by assumption)
                  | with_reducible exact seqB (by assumption) (by assumption)))
              (first
                | (go_at_call 14; (with_reducible refine Calls.mono (rnum_any (N : Int) hN9 E HA.out _) ?_); rintro e w' ⟨rfl, hb'⟩))
            all_goals
              go_wp2_with fail
              go_ret2
              rw [HG.out]
              exact ⟨ret_int2 rfl (by omega), by assumption⟩
      · have c0 : decide (k < s.size) = false := by simpa using hks
        go_wp2_with fail
        go_ret2
        rw [ahead_over HY.out (Or.inl (by rw [nums_length]; omega))]
        exact ⟨rfl, Below.refl _ _⟩
    · have HG := Lib.hid (ahead_over HY.out (Or.inr (by omega)))
      by_cases hks : k < s.size
      · go_wp2_with fail
        go_ret2
        rw [HG.out]
        exact ⟨rfl, Below.refl _ _⟩
      · go_wp2_with fail
        go_ret2
        rw [HG.out]
        exact ⟨rfl, Below.refl _ _⟩
end Go.Proofs.Ytanbggegbhcfhaa

/-
  Contracts: what the document's own Right, Free, first and Do answer. Conditions: as each states.
-/
import Derived.Test.YtkjljnfhnkaocaaW1
import Derived.Lib.AppendStr
namespace Go.Proofs.Ytkjljnfhnkaocaa
open Go.RowKit

theorem cut_big {n : Int} {L : Nat} (h : (L : Int) < n) : cut n L = L := by unfold cut; omega
theorem str_all (s : ByteArray) : s.extract 0 s.size = s := by
  apply ByteArray.ext
  simp
theorem str_none (s : ByteArray) : s.extract 0 0 = ⟨#[]⟩ := by
  apply ByteArray.ext
  simp
theorem str_taken (s : ByteArray) (m : Nat) : s.extract 0 m = strOfNums ((nums s).take m) := by
  apply ByteArray.ext
  apply Array.ext'
  have e : (strOfNums (nums s)).data.toList = s.data.toList := by rw [str_nums]
  rw [strOfNums_data] at e
  rw [strOfNums_data, List.map_take, e]
  simp [ByteArray.data_extract]
theorem str_rest (s : ByteArray) (k : Nat) : s.extract k s.size = strOfNums ((nums s).drop k) := by
  apply ByteArray.ext
  apply Array.ext'
  have e : (strOfNums (nums s)).data.toList = s.data.toList := by rw [str_nums]
  rw [strOfNums_data] at e
  rw [strOfNums_data, List.map_drop, e]
  simp [ByteArray.data_extract, List.take_of_length_le]
theorem taken_nums (s : ByteArray) (m : Nat) : nums (s.extract 0 m) = (nums s).take m := by rw [str_taken, nums_str _ ((nums_all s).take m)]
theorem rest_nums (s : ByteArray) (k : Nat) : nums (s.extract k s.size) = (nums s).drop k := by rw [str_rest, nums_str _ ((nums_all s).drop k)]
theorem append_nums (s t : ByteArray) : nums (s ++ t) = nums s ++ nums t := by
  rw [← nums_str _ ((nums_all s).append (nums_all t)), ← str_append, str_nums, str_nums]
theorem taken_size (s : ByteArray) (m : Nat) (h : m ≤ s.size) : (s.extract 0 m).size = m := by
  rw [← nums_length, taken_nums, List.length_take, nums_length]
  omega
theorem rest_size (s : ByteArray) (k : Nat) : (s.extract k s.size).size = s.size - k := by rw [← nums_length, rest_nums, List.length_drop, nums_length]
theorem append_size (s t : ByteArray) : (s ++ t).size = s.size + t.size := by rw [← nums_length, append_nums, List.length_append, nums_length, nums_length]
theorem nums_inj {s t : ByteArray} (h : nums s = nums t) : s = t := by rw [← str_nums s, h, str_nums]

set_option maxHeartbeats 2000000 in
theorem right_any (room : Int) (w : World) : Calls Try.prog 13 #[.int .i64 room] w fun e w' => e = .returned (.bool (decide (0 ≤ room ∧ room ≤ 4096))) ∧ w = w' := by
  by_cases h : 0 ≤ room
  · have d0 : decide (0 ≤ room) = true := by simpa using h
    by_cases h' : room ≤ 4096
    · have d1 : decide (0 ≤ room ∧ room ≤ 4096) = true := by simp; omega
      go_enter Try.func13, Try.ntmps13
      go_wp2_with fail
      go_ret
      exact ⟨ret_bool (by simp; omega), rfl⟩
    · go_enter Try.func13, Try.ntmps13
      go_wp2_with fail
      go_ret
      exact ⟨ret_bool (by simp; omega), rfl⟩
  · go_enter Try.func13, Try.ntmps13
    go_wp2_with fail
    go_ret
    exact ⟨ret_bool (by simp; omega), rfl⟩

set_option maxHeartbeats 2000000 in
theorem first_any (s : ByteArray) (n : Int) (_hs : s.size ≤ 9223372036854775807) (w : World) : Calls Try.prog 27 #[.string s, .int .i64 n] w fun e w' => e = .returned (.string (s.extract 0 (cut n s.size))) ∧ w = w' := by
  by_cases h0 : n < 0
  · have e : s.extract 0 (cut n s.size) = ⟨#[]⟩ := by rw [cut_neg _ _ h0, str_none]
    rw [e]
    clear e
    go_enter Try.func27, Try.ntmps27
    go_wp2_with fail
    go_ret
    exact ⟨rfl, rfl⟩
  · by_cases h1 : (s.size : Int) < n
    · have e : s.extract 0 (cut n s.size) = s := by rw [cut_big h1, str_all]
      rw [e]
      clear e
      go_enter Try.func27, Try.ntmps27
      go_wp2_with fail
      go_ret
      exact ⟨rfl, rfl⟩
    · obtain ⟨k, rfl⟩ : ∃ k : Nat, n = (k : Int) := ⟨n.toNat, by omega⟩
      have e : cut (k : Int) s.size = k := cut_nat _ _ (by omega)
      rw [e]
      clear e
      go_enter Try.func27, Try.ntmps27
      go_wp2_with fail
      go_ret
      exact ⟨rfl, rfl⟩

set_option maxHeartbeats 2000000 in
theorem rfree_any (s : ByteArray) (room : Int) (h0 : 0 ≤ room) (h1 : room ≤ 4096) (hs : s.size ≤ 9223372036854775807) (w : World) : Calls Try.prog 19 #[.agg #[.string s, .int .i64 room]] w fun e w' => e = .returned (.int .i64 ((room.toNat - s.size : Nat) : Int)) ∧ Below w.heap.size w w' := by
  by_cases h : room < (s.size : Int)
  · go_enter Try.func19, Try.ntmps19
    go_wp2_with fail
    go_ret
    exact ⟨ret_int (by omega), (Below.refl _ _).alloc (Nat.le_refl _) _⟩
  · go_enter Try.func19, Try.ntmps19
    go_wp2_with fail
    go_ret
    exact ⟨ret_int (by omega), (Below.refl _ _).alloc (Nat.le_refl _) _⟩
end Go.Proofs.Ytkjljnfhnkaocaa

/-
  Contracts: what the document's own GetStr and Str answer. Conditions: as each states.
-/
import Derived.Test.YtanbggegbhcfhaaW10
namespace Go.Proofs.Ytanbggegbhcfhaa
open Go.RowKit

theorem str_mid (s : ByteArray) (H N : Nat) : s.extract H (H + N) = strOfNums (((nums s).drop H).take N) := by
  apply ByteArray.ext
  apply Array.ext'
  have e : (strOfNums (nums s)).data.toList = s.data.toList := by rw [str_nums]
  rw [strOfNums_data] at e
  rw [strOfNums_data, List.map_take, List.map_drop, e]
  simp [ByteArray.data_extract]

set_option maxHeartbeats 2000000 in
theorem rgetstr_any (s : ByteArray) (hs : s.size ≤ 5000) (most : Int) (w : World) : Calls Try.prog 16 #[.string s, .int .i64 most] w fun e w' => e = .returned (.tuple #[.string (strOfNums (gsL (nums s) most).1), .int .i64 (gsL (nums s) most).2]) ∧ Below w.heap.size w w' := by
  have hG := rget_any s hs w
  have HF := get_fit (nums s) (nums_all s)
  obtain ⟨N, H, e⟩ : ∃ N H : Nat, getL (nums s) = (N, H) := ⟨_, _, rfl⟩
  have HE := Lib.hid e
  rw [e] at hG HF
  rw [nums_length] at HF
  simp only at HF
  have HG := Lib.hid hG
  have hN9 : N ≤ 9223372036854775807 := by omega
  obtain ⟨hH9, hHs⟩ := HF.2
  clear e hG HF
  have HNL := Lib.hid (nums_length s)
  go_enter Try.func16, Try.ntmps16
  go_wp2_with fail
  refine HG.out.mono ?_
  rintro e w1 ⟨rfl, hb1⟩
  have HB1 := Lib.hid hb1
  clear hb1
  simp only
  by_cases h1 : H = 0
  · have HB := Lib.hid (show gsL (nums s) most = ([], 0) from if_pos (by unfold gsB; rw [HE.out]; simp [h1]))
    subst h1
    go_wp2_with fail
    go_ret2
    rw [HB.out]
    exact ⟨rfl, HB1.out⟩
  · have c1 : ((H : Int) == 0) = false := by simp; omega
    by_cases h2 : most < (N : Int)
    · have HB := Lib.hid (show gsL (nums s) most = ([], 0) from if_pos (by unfold gsB; rw [HE.out]; simp [h2]))
      go_wp2_with fail
      go_ret2
      rw [HB.out]
      exact ⟨rfl, HB1.out⟩
    · by_cases h3 : s.size < H + N
      · have HB := Lib.hid (show gsL (nums s) most = ([], 0) from if_pos (by unfold gsB; rw [HE.out, HNL.out]; simp [h3]))
        go_wp2_with fail
        go_ret2
        rw [HB.out]
        exact ⟨rfl, HB1.out⟩
      · have HB := Lib.hid (show gsL (nums s) most = (((nums s).drop H).take N, H + N) by
          unfold gsL
          rw [if_neg (by unfold gsB; rw [HE.out, HNL.out]; simp [h1, h2, h3]), HE.out])
        have HM := Lib.hid (str_mid s H N)
        have hsl : (Instr.slice 9 (.string s) (some (.int .i64 (H : Int))) (some (.int .i64 ((H : Int) + (N : Int)))) none).run Try.prog w1 = .ok (.string (s.extract H (H + N))) w1 := by
          rw [run_slice_string (P := Try.prog) (w := w1) 9 s .i64 .i64 _ _ Try.underlying9 (by omega) (by omega) (by omega)]
          congr 3
        go_wp2_with fail
        go_ret2
        rw [HB.out]
        refine ⟨?_, HB1.out⟩
        simp only [← HM.out]
        simp
set_option maxHeartbeats 2000000 in
theorem rstr_doc (s : ByteArray) (hs : s.size ≤ 5000) (A : ByteArray) (hA : A = strOfNums (strL (nums s))) (w : World) : Calls Try.prog 18 #[.string s] w fun e w' => e = .returned (.string A) ∧ Below w.heap.size w w' := by
  obtain ⟨T, hT⟩ : ∃ T, T = strOfNums (numI (s.size : Int)) := ⟨_, rfl⟩
  have HN := Lib.hid (fun w => rnum_any (s.size : Int) (by omega) T hT w)
  have h9 := numI_len9 (s.size : Int) (by omega)
  have hTs : T.size ≤ 9 := by rw [hT, strOfNums_size]; exact h9
  have HA := Lib.hid (show A = T ++ s by
    rw [hA, hT, strL, nums_length, ← str_append, str_nums, numI_nat])
  clear hA hT h9
  go_enter Try.func18, Try.ntmps18
  go_wp2_with fail
  refine (HN.out _).mono ?_
  rintro e w1 ⟨rfl, hb1⟩
  have HB1 := Lib.hid hb1
  clear hb1
  go_wp2_with fail
  go_ret
  exact ⟨by rw [HA.out]; rfl, HB1.out⟩
end Go.Proofs.Ytanbggegbhcfhaa

/-
  Contracts: what the program's own Word, Kind, Numbers, Ends and Name answer. Conditions: as each states.
-/
import Derived.Test.YtmghkcjljnlocaaGreatDoorXD
import Derived.Laws.RangeString
import Derived.Laws.RangeAny
namespace Go.Proofs.YtmghkcjljnlocaaGreatDoor.gx
open Go.RowKit

set_option maxHeartbeats 4000000 in
theorem word_any (k : Int) (w : World) : Calls Tryz.prog 71 #[.int .i64 k] w fun e w' => e = .returned (.string (wordB k)) ∧ w = w' := by
  by_cases h1 : k = 1
  · subst h1
    go_enter Tryz.func71, Tryz.ntmps71
    go_wp2_with fail
    go_ret
    exact ⟨rfl, rfl⟩
  by_cases h2 : k = 2
  · subst h2
    go_enter Tryz.func71, Tryz.ntmps71
    go_wp2_with fail
    go_ret
    exact ⟨rfl, rfl⟩
  by_cases h3 : k = 3
  · subst h3
    go_enter Tryz.func71, Tryz.ntmps71
    go_wp2_with fail
    go_ret
    exact ⟨rfl, rfl⟩
  by_cases h4 : k = 4
  · subst h4
    go_enter Tryz.func71, Tryz.ntmps71
    go_wp2_with fail
    go_ret
    exact ⟨rfl, rfl⟩
  by_cases h5 : k = 5
  · subst h5
    go_enter Tryz.func71, Tryz.ntmps71
    go_wp2_with fail
    go_ret
    exact ⟨rfl, rfl⟩
  by_cases h6 : k = 6
  · subst h6
    go_enter Tryz.func71, Tryz.ntmps71
    go_wp2_with fail
    go_ret
    exact ⟨rfl, rfl⟩
  by_cases h7 : k = 7
  · subst h7
    go_enter Tryz.func71, Tryz.ntmps71
    go_wp2_with fail
    go_ret
    exact ⟨rfl, rfl⟩
  have b1 : (k == 1) = false := by simpa using h1
  have b2 : (k == 2) = false := by simpa using h2
  have b3 : (k == 3) = false := by simpa using h3
  have b4 : (k == 4) = false := by simpa using h4
  have b5 : (k == 5) = false := by simpa using h5
  have b6 : (k == 6) = false := by simpa using h6
  have b7 : (k == 7) = false := by simpa using h7
  have HE := Lib.hid (show wordB k = ⟨#[]⟩ by unfold wordB wordL; rw [if_neg h1, if_neg h2, if_neg h3, if_neg h4, if_neg h5, if_neg h6, if_neg h7]; rfl)
  clear h1 h2 h3 h4 h5 h6 h7
  go_enter Tryz.func71, Tryz.ntmps71
  go_wp2_with fail
  go_ret
  exact ⟨ret_strB HE.out.symm, rfl⟩
set_option maxHeartbeats 2000000 in
theorem numbers_any (k : Int) (w : World) : Calls Tryz.prog 72 #[.int .i64 k] w fun e w' => e = .returned (.int .i64 (numsB k)) ∧ w = w' := by
  go_enter Tryz.func72, Tryz.ntmps72
  go_wp2_with fail
  all_goals go_ret
  all_goals refine ⟨ret_int ?_, rfl⟩
  all_goals simp only [beq_iff_eq, beq_eq_false_iff_ne, ne_eq] at *
  all_goals (unfold numsB; (repeat' split) <;> omega)
/-! Name: a range over the signs of a text. -/
theorem name_empty {s : ByteArray} (h : s.size = 0) : nameB s = false := by
  unfold nameB
  rw [decide_eq_false (by omega), Bool.and_false]
theorem name_long {s : ByteArray} (h : 16 < s.size) : nameB s = false := by
  unfold nameB
  rw [decide_eq_false (by omega), Bool.and_false]
theorem sign_high {c : Int} (h : 128 ≤ c) : signB c = false := by
  unfold signB
  simp
  omega
set_option maxRecDepth 100000 in
set_option maxHeartbeats 4000000 in
theorem name_any (s : ByteArray) (w : World) (hs : s.size ≤ maxLen) : Calls Tryz.prog 38 #[.string s] w fun e w' => e = .returned (.bool (nameB s)) ∧ Below w.heap.size w w' := by
  unfold maxLen at hs
  by_cases h0 : s.data.toList = []
  · have HV := Lib.hid (name_empty (s := s) (by have : s.data.toList.length = 0 := by rw [h0]; rfl
                                                simpa using this))
    have hb : s.toList.isEmpty = true := by rw [Lib.toList_data, h0]; rfl
    clear h0
    go_enter Tryz.func38, Tryz.ntmps38
    go_wp2_with fail
    go_ret
    exact ⟨ret_bool HV.out.symm, Below.refl _ _⟩
  · have hb : s.toList.isEmpty = false := by rw [Lib.toList_data]; simpa using h0
    have hpos : 0 < s.size := by
      rcases Nat.eq_zero_or_pos s.size with h | h
      · exact absurd (List.eq_nil_of_length_eq_zero (by simpa using h)) h0
      · exact h
    clear h0
    by_cases h16 : 16 < s.size
    · have HV := Lib.hid (name_long h16)
      have hd : decide ((16 : Int) < (s.size : Int)) = true := decide_eq_true (by omega)
      go_enter Tryz.func38, Tryz.ntmps38
      go_wp2_with fail
      go_ret
      exact ⟨ret_bool HV.out.symm, Below.refl _ _⟩
    · have hd : decide ((16 : Int) < (s.size : Int)) = false := decide_eq_false (by omega)
      go_enter Tryz.func38, Tryz.ntmps38
      go_wp2_with fail
      go_loopw [] (fun w' => ∃ (k : Nat), k ≤ s.size ∧ w' = w.iter s k ∧ Hid (∀ j, j < k → signB ((nums s).getD j 0) = true)) (fun w' => s.size - w'.iterPos w.heap.size)
      case atStart => exact ⟨0, by omega, rfl, Lib.hid (fun j h => by omega)⟩
      case round =>
        obtain ⟨k, hk, rfl, HN⟩ := hrel
        by_cases hp : k < s.size
        · by_cases ha : (s[k]'hp).toNat < 128
          · have hnx : ∀ ty, (Instr.next (.pointer (some ⟨w.heap.size, 0, none⟩)) true ty).run Tryz.prog (w.iter s k) = _ := fun ty => run_next_ascii w s k ty hp ha
            have hc := nums_at s k hp
            generalize (s[k]'hp) = c at *
            generalize hcn : c.toNat = n at *
            have hn : (n : Int) < 128 := by omega
            cases hsg : signB ((nums s).getD k 0) with
            | false =>
              have HB := Lib.hid (name_bad hp hsg)
              rw [← hc] at hsg
              unfold signB at hsg
              simp only [Bool.or_eq_false_iff, decide_eq_false_iff_not] at hsg
              clear hc HN
              go_wp2_with fail
              all_goals first
                | (go_ret; exact ⟨ret_bool HB.out.symm, (Below.refl _ _).alloc (Nat.le_refl _) _⟩)
                | (exfalso; simp at *; omega)
            | true =>
              have HN1 := Lib.hid (show ∀ j, j < k + 1 → signB ((nums s).getD j 0) = true from fun j hj => by
                rcases Nat.lt_or_eq_of_le (Nat.le_of_lt_succ hj) with h | h
                · exact HN.out j h
                · rw [h]; exact hsg)
              rw [← hc] at hsg
              unfold signB at hsg
              simp only [Bool.or_eq_true, decide_eq_true_eq] at hsg
              clear hc HN
              go_wp2_with fail
              all_goals first
                | exact ⟨⟨k + 1, by omega, rfl, HN1⟩, by simp; omega⟩
                | (exfalso; simp at *; omega)
          · have hnx : ∀ ty, (Instr.next (.pointer (some ⟨w.heap.size, 0, none⟩)) true ty).run Tryz.prog (w.iter s k) = _ := fun ty => run_next_any w s k ty hp
            have hc := nums_at s k hp
            have hhi := (decode_high s k hp (by omega)).1
            have HB := Lib.hid (name_bad hp (by rw [← hc]; exact sign_high (by omega)))
            have hle := decode_le s k
            clear hc HN ha
            generalize (Utf8.decode s k).1 = c at *
            generalize k + (Utf8.decode s k).2 = k' at *
            have b1 : ¬ ((c : Int) ≤ 122) := by omega
            have b2 : ¬ ((c : Int) ≤ 57) := by omega
            have b3 : (97 : Int) ≤ c := by omega
            have b4 : (48 : Int) ≤ c := by omega
            have b5 : ((c : Int) != 95) = true := by simp; omega
            have b6 : ((c : Int) != 45) = true := by simp; omega
            go_wp2_with fail
            all_goals (go_ret; exact ⟨ret_bool HB.out.symm, (Below.refl _ _).alloc (Nat.le_refl _) _⟩)
        · have hnx : ∀ ty, (Instr.next (.pointer (some ⟨w.heap.size, 0, none⟩)) true ty).run Tryz.prog (w.iter s k) = _ := fun ty => run_next_end w s k ty hp
          obtain rfl : k = s.size := by omega
          have HV := Lib.hid (show nameB s = true by rw [name_good HN.out]; exact decide_eq_true ⟨hpos, by omega⟩)
          clear HN
          go_wp2_with fail
          go_ret
          exact ⟨ret_bool HV.out.symm, (Below.refl _ _).alloc (Nat.le_refl _) _⟩
end Go.Proofs.YtmghkcjljnlocaaGreatDoor.gx

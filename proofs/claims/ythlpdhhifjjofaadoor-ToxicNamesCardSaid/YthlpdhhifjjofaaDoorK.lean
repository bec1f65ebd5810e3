/-
  Contracts: what tick's own nearest, Right, Parse and Text answer. Conditions: as each states.
-/
import Derived.Test.YthlpdhhifjjofaaDoorP
import Derived.Lib.LaidTab
namespace Go.Proofs.YthlpdhhifjjofaaDoor
open Go.RowKit

set_option maxHeartbeats 400000 in
theorem nearest_any (n : Int) (w : World) : Calls Tryd.prog 43 #[.int .i64 n] w fun e w' => e = .returned (.int .i64 (near n)) ∧ w = w' := by
  go_enter Tryd.func43, Tryd.ntmps43
  go_wp2
  all_goals go_ret
  all_goals exact ⟨ret_int (by unfold near; (repeat' split at *) <;> omega), rfl⟩

set_option maxHeartbeats 400000 in
theorem right_any (n : Int) (w : World) : Calls Tryd.prog 39 #[.int .i64 n] w fun e w' => e = .returned (.bool (n == near n)) ∧ w = w' := by
  go_enter Tryd.func39, Tryd.ntmps39
  go_wp2_with (go_at_call 43; refine (nearest_any _ _).mono ?_; rintro e w' ⟨rfl, rfl⟩)
  go_ret
  exact ⟨rfl, rfl⟩

theorem right_yes (n : Int) (w : World) (h0 : 0 ≤ n) (h1 : n ≤ 1099511627776) : Calls Tryd.prog 39 #[.int .i64 n] w fun e w' => e = .returned (.bool true) ∧ w = w' :=
  (right_any n w).mono fun _ _ ⟨he, hw⟩ => ⟨by rw [he, near_of n h0 h1, beq_self_eq_true], hw⟩
theorem right_no (n : Int) (w : World) (h1 : n < 0 ∨ 1099511627776 < n) : Calls Tryd.prog 39 #[.int .i64 n] w fun e w' => e = .returned (.bool false) ∧ w = w' :=
  (right_any n w).mono fun _ _ ⟨he, hw⟩ => ⟨by rw [he, ret_bool]; have := near_range n; simp; omega, hw⟩

set_option maxHeartbeats 800000 in
set_option maxRecDepth 100000 in
theorem parse_any (s : ByteArray) (w : World) (hs : s.size ≤ maxLen) :
    Calls Tryd.prog 50 #[.string s] w fun e w' => e = parseEnd (parseF s.data.toList) ∧ Below w.heap.size w w' := by
  unfold maxLen at hs
  by_cases h0 : s.data.toList = []
  · have HF := Lib.hid (show parseF s.data.toList = none by unfold parseF; rw [if_pos h0])
    have hb : s.toList.isEmpty = true := by rw [Lib.toList_data, h0]; rfl
    clear h0
    go_enter Tryd.func50, Tryd.ntmps50
    go_wp2_with fail
    go_ret2
    exact ⟨by rw [HF.out]; rfl, Below.refl _ _⟩
  · have HF := Lib.hid (show parseF s.data.toList = pgo 0 0 s.data.toList by unfold parseF; rw [if_neg h0])
    have hb : s.toList.isEmpty = false := by rw [Lib.toList_data]; simpa using h0
    clear h0
    go_enter Tryd.func50, Tryd.ntmps50
    go_wp2_with fail
    go_loopw [4] (fun a w' => ∃ (k : Nat) (n : Int), k ≤ s.size ∧ w' = w.iter s k ∧ a = .int .i64 n ∧ 0 ≤ n ∧ n ≤ 1099511627776 ∧ Hid (pgo k n (s.data.toList.drop k) = parseF s.data.toList)) (fun _ w' => s.size - w'.iterPos w.heap.size)
    case atStart => exact ⟨0, 0, by omega, rfl, rfl, by omega, by omega, HF.out.symm⟩
    case round =>
      obtain ⟨k, n, hk, rfl, rfl, hn0, hn1, HP⟩ := hrel
      by_cases hp : k < s.size
      · have hd := drop_at s k hp
        have HP' := Lib.hid (show pgo k n (s[k] :: s.data.toList.drop (k + 1)) = parseF s.data.toList by rw [← hd]; exact HP.out)
        clear hd HP
        by_cases ha : (s[k]'hp).toNat < 128
        · have hnx : ∀ ty, (Instr.next (.pointer (some ⟨w.heap.size, 0, none⟩)) true ty).run Tryd.prog (w.iter s k) = _ := fun ty => run_next_ascii w s k ty hp ha
          generalize hc : (s[k]'hp) = c at *
          clear hc
          have hc8 : c.toNat < 256 := c.toNat_lt
          by_cases bad : (c.toNat : Int) < 48 ∨ (57 : Int) < c.toNat ∨ (0 < k ∧ n = 0)
          · have HE := Lib.hid (HP'.out.symm.trans (pgo_bad k n c _ bad))
            clear HP'
            by_cases b1 : (c.toNat : Int) < 48
            · clear bad
              go_wp2_with fail
              all_goals (go_ret2; exact ⟨by rw [HE.out]; rfl, (Below.refl _ _).alloc (Nat.le_refl _) _⟩)
            · by_cases b2 : (57 : Int) < c.toNat
              · clear bad
                go_wp2_with fail
                all_goals (go_ret2; exact ⟨by rw [HE.out]; rfl, (Below.refl _ _).alloc (Nat.le_refl _) _⟩)
              · obtain rfl : n = 0 := by omega
                have b3 : 0 < k := by omega
                clear bad
                go_wp2_with fail
                all_goals (go_ret2; exact ⟨by rw [HE.out]; rfl, (Below.refl _ _).alloc (Nat.le_refl _) _⟩)
          · have b1 : (48 : Int) ≤ c.toNat := by omega
            have b2 : (c.toNat : Int) ≤ 57 := by omega
            have b3 : k = 0 ∨ n ≠ 0 := by omega
            have b4 : (decide (0 < k) && (n == 0)) = false := by rcases b3 with b3 | b3 <;> simp [b3]
            by_cases over : (1099511627776 : Int) < 10 * n + ((c.toNat : Int) - 48)
            · have HE := Lib.hid (HP'.out.symm.trans (pgo_over k n c _ over))
              clear HP' bad b3
              by_cases hk0 : 0 < k
              · have c4 : (n == 0) = false := by simpa [hk0] using b4
                clear b4
                go_wp2_with (go_at_call 39; refine (right_no _ _ (by omega)).mono ?_; rintro e w' ⟨rfl, rfl⟩)
                all_goals (go_ret2; exact ⟨by rw [HE.out]; rfl, (Below.refl _ _).alloc (Nat.le_refl _) _⟩)
              · obtain rfl : k = 0 := by omega
                clear b4
                go_wp2_with (go_at_call 39; refine (right_no _ _ (by omega)).mono ?_; rintro e w' ⟨rfl, rfl⟩)
                all_goals (go_ret2; exact ⟨by rw [HE.out]; rfl, (Below.refl _ _).alloc (Nat.le_refl _) _⟩)
            · have HE := Lib.hid ((pgo_step k n c _ bad (by omega)).symm.trans HP'.out)
              clear HP' bad b3
              by_cases hk0 : 0 < k
              · have c4 : (n == 0) = false := by simpa [hk0] using b4
                clear b4
                go_wp2_with (go_at_call 39; refine (right_yes _ _ (by omega) (by omega)).mono ?_; rintro e w' ⟨rfl, rfl⟩)
                go_roundw
                case rel => exact ⟨k + 1, _, by omega, rfl, rfl, by omega, by omega, HE.out⟩
                case measure => simp; omega
              · obtain rfl : k = 0 := by omega
                clear b4
                go_wp2_with (go_at_call 39; refine (right_yes _ _ (by omega) (by omega)).mono ?_; rintro e w' ⟨rfl, rfl⟩)
                go_roundw
                case rel => exact ⟨1, _, by omega, rfl, rfl, by omega, by omega, HE.out⟩
                case measure => simp; omega
        · have hnx : ∀ ty, (Instr.next (.pointer (some ⟨w.heap.size, 0, none⟩)) true ty).run Tryd.prog (w.iter s k) = _ := fun ty => run_next_any w s k ty hp
          have hhi := (decode_high s k hp (by omega)).1
          have hle := decode_le s k
          have HE := Lib.hid (HP'.out.symm.trans (pgo_bad k n _ _ (by omega)))
          clear HP'
          generalize (Utf8.decode s k).1 = c at *
          generalize k + (Utf8.decode s k).2 = k' at *
          have b1 : ¬ ((c : Int) < 48) := by omega
          have b2 : (57 : Int) < c := by omega
          go_wp2_with fail
          all_goals (go_ret2; exact ⟨by rw [HE.out]; rfl, (Below.refl _ _).alloc (Nat.le_refl _) _⟩)
      · have hnx : ∀ ty, (Instr.next (.pointer (some ⟨w.heap.size, 0, none⟩)) true ty).run Tryd.prog (w.iter s k) = _ := fun ty => run_next_end w s k ty hp
        have HE := Lib.hid (show some n = parseF s.data.toList by rw [← HP.out, List.drop_of_length_le (by simp; omega), pgo_nil])
        clear HP
        go_wp2_with fail
        go_ret2
        exact ⟨by rw [← HE.out]; rfl, (Below.refl _ _).alloc (Nat.le_refl _) _⟩
/-- The library's table that decimal texts are made with. -/
abbrev Tab (w : World) : Prop := Lib.TabIs Tryd.prog w "internal/strconv.uint64pow10" .u64 Lib.pow10Tab
theorem gPow : Tryd.prog.globalNamed "internal/strconv.uint64pow10" = some 1 := by kernel_rfl
theorem tab_on {w w' : World} (h : Tab w) (hb : Below w.heap.size w w') : Tab w' := Joins.tab_stays gPow h hb (Nat.le_refl _)
theorem below_grow (w : World) (k : Nat) (os : Array Obj) : Below w.heap.size w (Sort.grow (w.drewN k) os) :=
  ⟨rfl, rfl, rfl, by simp [Sort.grow], fun i hi => by
    show (w.heap ++ os)[i]? = w.heap[i]?
    rw [Array.getElem?_append_left hi]⟩
theorem below_drewN {B : Nat} {a w : World} (h : Below B a w) (n : Nat) : Below B a (w.drewN n) := ⟨h.os, h.tape, h.output, h.size, h.block⟩

set_option maxHeartbeats 400000 in
theorem text_any (n : Int) (w : World) (ht : Tab w) : Calls Tryd.prog 28 #[.int .i64 n] w fun e w' => e = .returned (.string ⟨(Lib.itoa (near n)).toArray⟩) ∧ Below w.heap.size w w' := by
  have hn := near_range n
  have HT := Lib.hid ht
  clear ht
  go_enter Tryd.func28, Tryd.ntmps28
  go_wp2_with (first | (go_at_call 43; refine (nearest_any _ _).mono ?_; rintro e w' ⟨rfl, rfl⟩) | (go_at_call 42; refine (Tryd.strconv_Itoa _ (by omega) (by omega) _ HT.out).mono ?_; rintro e w' ⟨rfl, k, os, rfl⟩))
  go_ret
  exact ⟨rfl, below_grow w k os⟩

end Go.Proofs.YthlpdhhifjjofaaDoor

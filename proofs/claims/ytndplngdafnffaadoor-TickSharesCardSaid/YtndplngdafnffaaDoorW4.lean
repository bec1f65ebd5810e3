/-
  Contracts: what tick.Text and tick.Least answer, and that the statements' first test is true. Conditions: the library's table of powers of ten holds these.
-/
import Derived.Test.YtndplngdafnffaaDoorW3
namespace Go.Proofs.YtndplngdafnffaaDoor
open Go.RowKit

/-- The library's table that decimal texts are made with. -/
abbrev Tab (w : World) : Prop := Lib.TabIs Tryd.prog w "internal/strconv.uint64pow10" .u64 Lib.pow10Tab
theorem gPow : Tryd.prog.globalNamed "internal/strconv.uint64pow10" = some 2 := by kernel_rfl
theorem tab_on {w w' : World} (h : Tab w) (hb : Below w.heap.size w w') : Tab w' := Joins.tab_stays gPow h hb (Nat.le_refl _)
theorem below_grow (w : World) (k : Nat) (os : Array Obj) : Below w.heap.size w (Sort.grow (w.drewN k) os) :=
  ⟨rfl, rfl, rfl, by simp [Sort.grow], fun i hi => by
    show (w.heap ++ os)[i]? = w.heap[i]?
    rw [Array.getElem?_append_left hi]⟩
theorem below_drewN {B : Nat} {a w : World} (h : Below B a w) (n : Nat) : Below B a (w.drewN n) := ⟨h.os, h.tape, h.output, h.size, h.block⟩

set_option maxHeartbeats 400000 in
theorem text_any (n : Int) (w : World) (ht : Tab w) : Calls Tryd.prog 25 #[.int .i64 n] w fun e w' => e = .returned (.string ⟨(Lib.itoa (near n)).toArray⟩) ∧ Below w.heap.size w w' := by
  have hn := near_range n
  have HT := Lib.hid ht
  clear ht
  go_enter Tryd.func25, Tryd.ntmps25
  go_wp2_with (first | (go_at_call 28; refine (nearest_any _ _).mono ?_; rintro e w' ⟨rfl, rfl⟩) | (go_at_call 35; refine (Tryd.strconv_Itoa _ (by omega) (by omega) _ HT.out).mono ?_; rintro e w' ⟨rfl, k, os, rfl⟩))
  go_ret
  exact ⟨rfl, below_grow w k os⟩

theorem ret_two_int {k : IntKind} {a b : Int} {v : Value} (h : a = b) : Ending.returned (.tuple #[.int k a, v]) = .returned (.tuple #[.int k b, v]) := by rw [h]
def leastTo : List Int → Int → Int
  | [], m => m
  | z :: r, m => leastTo r (if m ≤ near z then m else near z)
theorem leastTo_snoc (l : List Int) (z m : Int) : leastTo (l ++ [z]) m = (if leastTo l m ≤ near z then leastTo l m else near z) := by
  induction l generalizing m with
  | nil => rfl
  | cons a r ih => simp only [List.cons_append, leastTo]; exact ih _
theorem leastTo_range (l : List Int) (m : Int) (h0 : 0 ≤ m) (h1 : m ≤ 1099511627776) : 0 ≤ leastTo l m ∧ leastTo l m ≤ 1099511627776 := by
  induction l generalizing m with
  | nil => exact ⟨h0, h1⟩
  | cons a r ih => have := near_range a; simp only [leastTo]; split <;> exact ih _ (by omega) (by omega)

set_option maxHeartbeats 800000 in
theorem least_any (b off cap : Nat) (zs : List Int) (w : World) (h1 : 1 ≤ zs.length) (hm : zs.length ≤ maxLen)
    (hc : ∀ k, k < zs.length → w.cell? ⟨b, off + k, none⟩ = some (.int .i64 (zs.getD k 0))) :
    Calls Tryd.prog 27 #[.slice (some ⟨b, off, none⟩) zs.length cap] w fun e w' => e = .returned (.tuple #[.int .i64 (leastTo zs 1099511627776), .bool true]) ∧ w = w' := by
  unfold maxLen at hm
  have HC := Lib.hid hc
  clear hc
  generalize hl : zs.length = len at *
  have HL := Lib.hid hl
  clear hl
  have c0 : ((len : Int) == 0) = false := by simp; omega
  go_enter Tryd.func27, Tryd.ntmps27
  go_wp2_with fail
  go_loop [4, 12] (fun m i => ∃ k : Nat, k ≤ len ∧ i = .int .i64 k ∧ m = .int .i64 (leastTo (zs.take k) 1099511627776)) (fun _ i => len - (intOf i).toNat)
  case atStart => exact ⟨0, by omega, rfl, rfl⟩
  case round =>
    obtain ⟨k, hk, rfl, rfl⟩ := hrel
    have hr := leastTo_range (zs.take k) 1099511627776 (by omega) (by omega)
    by_cases hlt : k < len
    · have g := HC.out k hlt
      have hz := near_range (zs.getD k 0)
      have HS := Lib.hid (show leastTo (zs.take (k + 1)) 1099511627776 = (if leastTo (zs.take k) 1099511627776 ≤ near (zs.getD k 0) then leastTo (zs.take k) 1099511627776 else near (zs.getD k 0)) by
        rw [← leastTo_snoc, List.take_succ_eq_append_getElem (by rw [HL.out]; exact hlt), List.getD_eq_getElem?_getD, List.getElem?_eq_getElem (by rw [HL.out]; exact hlt)]; rfl)
      go_wp2_with (go_at_call 28; refine (nearest_any _ _).mono ?_; rintro e w' ⟨rfl, rfl⟩)
      all_goals go_round
      case rel => exact ⟨k + 1, by omega, by go_num, by rw [HS.out, Int.min_def, List.getD_eq_getElem?_getD]⟩
      case measure => simp [intOf]; omega
    · go_wp2_with fail
      go_ret2
      exact ⟨ret_two_int (by rw [List.take_of_length_le (by rw [HL.out]; omega)]), rfl⟩

theorem p007 : parseF [48, 48, 55] = none := by decide
theorem l947 : leastTo [9, 4, 7] 1099511627776 = 4 := by decide
theorem t120 : Lib.itoa (near 120) = [49, 50, 48] := by decide +kernel
theorem s357 : shareF 7 50 100 = 3 := by decide
theorem u72 : upF 7 2 = 4 := by decide

theorem parse_007 (w : World) : Calls Tryd.prog 23 #[.string ⟨#[48, 48, 55]⟩] w fun e w' => e = .returned (.tuple #[.int .i64 0, .int .i64 10]) ∧ Below w.heap.size w w' :=
  (parse_any ⟨#[48, 48, 55]⟩ w (by decide)).mono fun e w' ⟨he, hw⟩ => ⟨by rw [he]; show parseEnd (parseF [48, 48, 55]) = _; rw [p007]; rfl, hw⟩
theorem share_357 (w : World) : Calls Tryd.prog 21 #[.int .i64 7, .int .i64 50, .int .i64 100] w fun e w' => e = .returned (.int .i64 3) ∧ ∃ n, w' = w.drewN n :=
  (share_low 7 50 100 (by decide) (by decide) (by decide) (by decide) w).mono fun e w' ⟨he, hw⟩ => ⟨by rw [he, s357], hw⟩
theorem up_72 (w : World) : Calls Tryd.prog 17 #[.int .i64 7, .int .i64 2] w fun e w' => e = .returned (.int .i64 4) ∧ w = w' :=
  (up_any 7 2 w).mono fun e w' ⟨he, hw⟩ => ⟨by rw [he, u72], hw⟩
theorem sub_35 (w : World) : Calls Tryd.prog 13 #[.int .i64 3, .int .i64 5] w fun e w' => e = .returned (.int .i64 0) ∧ w = w' :=
  (sub_any 3 5 w).mono fun e w' ⟨he, hw⟩ => ⟨by rw [he]; rfl, hw⟩
theorem add_top (w : World) : Calls Tryd.prog 11 #[.int .i64 1099511627776, .int .i64 1] w fun e w' => e = .returned (.int .i64 1099511627776) ∧ w = w' :=
  (add_any 1099511627776 1 w).mono fun e w' ⟨he, hw⟩ => ⟨by rw [he]; exact ret_int (by decide), hw⟩
theorem text_120 (w : World) (ht : Tab w) : Calls Tryd.prog 25 #[.int .i64 120] w fun e w' => e = .returned (.string ⟨#[49, 50, 48]⟩) ∧ Below w.heap.size w w' :=
  (text_any 120 w ht).mono fun e w' ⟨he, hw⟩ => ⟨by rw [he, t120], hw⟩

theorem least_947 (w : World) : Calls Tryd.prog 27 #[.slice (some ⟨w.heap.size, 0, none⟩) 3 3] (w.alloc (.cells #[.int .i64 9, .int .i64 4, .int .i64 7] 3)) fun e w' => e = .returned (.tuple #[.int .i64 4, .bool true]) ∧ (w.alloc (.cells #[.int .i64 9, .int .i64 4, .int .i64 7] 3)) = w' :=
  (least_any w.heap.size 0 3 [9, 4, 7] _ (by decide) (by decide) (fun k hk => by
    have : k = 0 ∨ k = 1 ∨ k = 2 := by simp at hk; omega
    rcases this with rfl | rfl | rfl <;> simp [go_sem])).mono fun e w' ⟨he, hw⟩ => ⟨by rw [he, l947], hw⟩

set_option maxHeartbeats 800000 in
theorem alive_any (w : World) (ht : Tab w) : Calls Tryd.prog 10 #[] w fun e w' => e = .returned (.bool true) ∧ Below w.heap.size w w' := by
  have HT := Lib.hid ht
  clear ht
  go_enter Tryd.func10, Tryd.ntmps10
  go_wp2_with fail
  refine (parse_007 _).mono ?_
  rintro e w1 ⟨rfl, hb1⟩
  have HB1 := Lib.hid hb1
  clear hb1
  go_wp2_with fail
  refine (least_947 _).mono ?_
  rintro e w2 ⟨rfl, hw2⟩
  have HB2 := Lib.hid (show Below w.heap.size w w2 by rw [← hw2]; exact HB1.out.alloc HB1.out.size _)
  clear hw2 HB1
  go_wp2_with fail
  refine (sub_35 _).mono ?_
  rintro e w' ⟨rfl, rfl⟩
  go_wp2_with fail
  refine (add_top _).mono ?_
  rintro e w' ⟨rfl, rfl⟩
  go_wp2_with fail
  refine (up_72 _).mono ?_
  rintro e w' ⟨rfl, rfl⟩
  go_wp2_with fail
  refine (share_357 _).mono ?_
  rintro e w3 ⟨rfl, n, hw3⟩
  have HB3 := Lib.hid (show Below w.heap.size w w3 by rw [hw3]; exact below_drewN HB2.out n)
  clear hw3 HB2
  go_wp2_with fail
  refine (text_120 _ (tab_on HT.out HB3.out)).mono ?_
  rintro e w4 ⟨rfl, hb4⟩
  have HB4 := Lib.hid (show Below w.heap.size w w4 from HB3.out.trans (hb4.mono HB3.out.size))
  clear hb4 HB3
  go_wp2_with fail
  refine (right_yes 5 _ (by omega) (by omega)).mono ?_
  rintro e w' ⟨rfl, rfl⟩
  go_wp2_with fail
  go_ret
  exact ⟨rfl, HB4.out⟩
end Go.Proofs.YtndplngdafnffaaDoor

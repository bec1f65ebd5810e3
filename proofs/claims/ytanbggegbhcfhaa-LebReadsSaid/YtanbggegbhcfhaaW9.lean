/-
  Contracts: what the document's own Num and Get answer. Conditions: as each states.
-/
import Derived.Test.YtanbggegbhcfhaaM2
namespace Go.Proofs.Ytanbggegbhcfhaa
open Go.RowKit

theorem conv_made (X : Int) (A : ByteArray) (hA : A = strOfNums [X]) (w : World) : (convert 22 9 (.slice (some ⟨w.heap.size, 0, none⟩) 1 1)).run Try.prog (w.alloc (.cells #[.int .u8 X] 5)) = .ok (.string A) (w.alloc (.cells #[.int .u8 X] 5)) := by
  subst hA
  exact conv_bytes (made_one w X) rfl 1
theorem conv_after (X : Int) (A : ByteArray) (hA : A = strOfNums [X]) {w w' : World} (hb : Below (w.alloc (.cells #[.int .u8 X] 5)).drew.heap.size (w.alloc (.cells #[.int .u8 X] 5)).drew w') : (convert 22 9 (.slice (some ⟨w.heap.size, 0, none⟩) 1 1)).run Try.prog w' = .ok (.string A) w' := by
  subst hA
  exact conv_bytes (bytes_on (w := (w.alloc (.cells #[.int .u8 X] 5)).drew) (made_one w X) hb) rfl 1

set_option maxHeartbeats 4000000 in
theorem rnum_step (y : Int) (h : 128 ≤ y) (h1 : y ≤ 9223372036854775807) (A B C : ByteArray) (hA : A = strOfNums [y % 128 + 128]) (hs : A.size + B.size ≤ 1000) (hC : C = A ++ B) (w : World)
    (ih : ∀ w, Calls Try.prog 14 #[.int .i64 (y / 128)] w fun e w' => e = .returned (.string B) ∧ Below w.heap.size w w') :
    Calls Try.prog 14 #[.int .i64 y] w fun e w' => e = .returned (.string C) ∧ Below w.heap.size w w' := by
  have IH := Lib.hid ih
  have HA := Lib.hid hA
  have HC := Lib.hid hC
  have eX : IntKind.u8.wrap (IntKind.i64.wrap (y.tmod 128 + 128)) = y % 128 + 128 := by
    rw [IntWalk.rem_in y 128 (by omega), IntWalk.i64_in _ (by omega), IntWalk.u8_in _ (by omega)]
  have eY : IntKind.i64.wrap (y.tdiv 128) = y / 128 := IntWalk.i64_quo y 128 (by omega)
  obtain ⟨X, hX⟩ : ∃ X, y % 128 + 128 = X := ⟨_, rfl⟩
  obtain ⟨Y, hY⟩ : ∃ Y, y / 128 = Y := ⟨_, rfl⟩
  rw [hX] at HA eX
  rw [hY] at IH eY
  have kc := fun w => conv_made X A HA.out w
  have kd : (convert 22 9 (.slice (some ⟨w.heap.size, 0, none⟩) 1 1)).run Try.prog (w.alloc (.cells #[.int .u8 X] 5)).drew = .ok (.string A) (w.alloc (.cells #[.int .u8 X] 5)).drew := by
    rw [HA.out]
    exact conv_bytes (w := (w.alloc (.cells #[.int .u8 X] 5)).drew) (made_one w X) rfl 1
  clear hX hY
  clear ih hA hC
  go_enter Try.func14, Try.ntmps14
  go_wp2_with fail
  go_region_held (fun w' => Below w.heap.size w w')
    ((first
        | with_reducible exact Below.refl _ _
        | with_reducible exact (Below.refl _ _).drew
        | with_reducible exact ((Below.refl _ _).alloc (Nat.le_refl _) _).drew
        | with_reducible assumption
        | with_reducible exact Below.drew (by assumption)
        | with_reducible exact Below.alloc (by assumption) (Below.size (by assumption)) _
        | with_reducible exact seqB (by assumption) (by assumption)))
    (first
      | (go_at_call 14; refine (IH.out _).mono ?_; rintro e w' ⟨rfl, hb'⟩; try (have cv := conv_after X A HA.out hb')))
  all_goals
    go_wp2_with fail
    go_ret
    exact ⟨by rw [HC.out]; rfl, by assumption⟩

set_option maxHeartbeats 2000000 in
theorem rnum_neg (y : Int) (h : y < 0) (w : World) : Calls Try.prog 14 #[.int .i64 y] w fun e w' => e = .returned (.string ⟨#[]⟩) ∧ Below w.heap.size w w' := by
  go_enter Try.func14, Try.ntmps14
  go_wp2_with fail
  go_ret
  exact ⟨rfl, Below.refl _ _⟩
set_option maxHeartbeats 2000000 in
theorem rnum_low (y : Int) (h0 : 0 ≤ y) (h : y < 128) (A : ByteArray) (hA : A = strOfNums [y]) (w : World) : Calls Try.prog 14 #[.int .i64 y] w fun e w' => e = .returned (.string A) ∧ Below w.heap.size w w' := by
  have kd := conv_made y A hA w
  have em : y % 256 = y := by omega
  clear hA
  go_enter Try.func14, Try.ntmps14
  go_wp2_with fail
  go_ret
  exact ⟨rfl, (Below.refl _ _).alloc (Nat.le_refl _) _⟩
theorem str_cons (x : Int) (xs : List Int) : strOfNums (x :: xs) = strOfNums [x] ++ strOfNums xs := by rw [str_append]; rfl
theorem rnum_nat (n : Nat) (h : n ≤ 9223372036854775807) (w : World) : Calls Try.prog 14 #[.int .i64 n] w fun e w' => e = .returned (.string (strOfNums (numL n))) ∧ Below w.heap.size w w' := by
  induction n using Nat.strongRecOn generalizing w with
  | _ n ih =>
    by_cases hn : n < 128
    · exact rnum_low n (by omega) (by omega) _ (by rw [numL_low n hn]) w
    · have h9 := num_len9 (n / 128) (by omega)
      refine rnum_step n (by omega) (by omega) (strOfNums [(n : Int) % 128 + 128]) (strOfNums (numL (n / 128))) _ rfl ?_ ?_ w ?_
      · rw [strOfNums_size, strOfNums_size]
        simp
        omega
      · rw [numL_high n (by omega), str_cons]
        rfl
      · intro w
        exact ih (n / 128) (by omega) (by omega) w
/-- The document's Num. -/
theorem rnum_any (y : Int) (h : y ≤ 9223372036854775807) (A : ByteArray) (hA : A = strOfNums (numI y)) (w : World) : Calls Try.prog 14 #[.int .i64 y] w fun e w' => e = .returned (.string A) ∧ Below w.heap.size w w' := by
  subst hA
  by_cases h0 : y < 0
  · rw [numI_neg y h0]
    exact rnum_neg y h0 w
  · obtain ⟨n, rfl⟩ := Int.eq_ofNat_of_zero_le (show 0 ≤ y by omega)
    rw [show numI (n : Int) = numL n from numI_nat n]
    exact rnum_nat n (by omega) w
end Go.Proofs.Ytanbggegbhcfhaa

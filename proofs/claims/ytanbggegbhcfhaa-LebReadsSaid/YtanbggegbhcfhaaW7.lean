/-
  Contract: the statements' own 'alive' returns true. Conditions: none.
-/
import Derived.Test.YtanbggegbhcfhaaW6
namespace Go.Proofs.Ytanbggegbhcfhaa
open Go.RowKit

theorem allB_of {xs : List Int} (h : xs.all (fun x => decide (0 ≤ x ∧ x < 256)) = true) : AllB xs := fun x hx => by
  have := List.all_eq_true.mp h x hx
  simpa using this
theorem num300 : numI 300 = [172, 2] := by
  rw [show (300 : Int) = ((300 : Nat) : Int) by rfl, numI_nat, numL_high 300 (by omega), numL_low (300 / 128) (by omega)]
  rfl
theorem below_drawn {B : Nat} {a w : World} (h : Below B a w) (n : Nat) : Below B a (w.drewN n) := ⟨h.os, h.tape, h.output, h.size, h.block⟩
theorem took_below {u : Value} {L : Nat} {w0 w : World} {B base g : Nat} {xs : List Int} {k : Nat} {e : Ending} {w' : World} (h : Took u L w base g xs k e w') (hb : Below B w0 w) (hB : B ≤ w.heap.size) (hg : B ≤ base) : Below B w0 w' :=
  hb.grown h.2.2 hB (fun j hj => by cases hj; have := h.2.1.base; omega)

set_option maxHeartbeats 2000000 in
theorem alive_any (w : World) : Calls Try.prog 10 #[] w fun e w' => e = .returned (.bool true) ∧ Below w.heap.size w w' := by
  go_enter Try.func10, Try.ntmps10
  go_wp2_with fail
  have HI := Lib.hid (made_bytes w [172, 2, 2, 97, 98, 7] 6 (0, 0) rfl)
  simp only [List.map_cons, List.map_nil] at HI
  have HW := Lib.hid (show Below w.heap.size w (w.alloc (.cells #[.int .u8 172, .int .u8 2, .int .u8 2, .int .u8 97, .int .u8 98, .int .u8 7] 5)) from (Below.refl _ _).alloc (Nat.le_refl _) _)
  generalize w.alloc (.cells #[.int .u8 172, .int .u8 2, .int .u8 2, .int .u8 97, .int .u8 98, .int .u8 7] 5) = w1 at *
  have hs1 := HW.out.size
  refine (new_any _ 6 6 [172, 2, 2, 97, 98, 7] _ rfl (by omega) (allB_of (by decide)) HI.out).mono ?_
  rintro e w2 ⟨g, rfl, hr, hb2⟩
  have HR := Lib.hid hr
  have HB2 := Lib.hid (seqB HW.out hb2)
  clear hr hb2 HI HW
  go_wp2_with fail
  have HI := Lib.hid (made_bytes w2 [128, 0] 2 (0, 0) rfl)
  simp only [List.map_cons, List.map_nil] at HI
  have HB3 := Lib.hid (show Below w2.heap.size w2 (w2.alloc (.cells #[.int .u8 128, .int .u8 0] 5)) from (Below.refl _ _).alloc (Nat.le_refl _) _)
  generalize w2.alloc (.cells #[.int .u8 128, .int .u8 0] 5) = w3 at *
  refine (get_any _ 2 2 [128, 0] _ rfl (by omega) (by omega) (allB_of (by decide)) HI.out).mono ?_
  rintro e w4 ⟨rfl, rfl⟩
  rw [show getL [128, 0] = (0, 0) by decide]
  have HR3 := Lib.hid (HR.out.on HB3.out)
  have HBB := Lib.hid (seqB HB2.out HB3.out)
  clear HI HR HB2 HB3
  go_wp2_with fail
  refine (rint_any _ g _ 0 false 300 _ HR3.out).mono ?_
  rw [show foundI false [172, 2, 2, 97, 98, 7] 0 300 = (300, 2) by decide]
  rintro e w4 ht
  obtain ⟨rfl, hr4, _⟩ := id ht
  have HR4 := Lib.hid hr4
  have HB4 := Lib.hid (took_below ht HBB.out HBB.out.size hs1)
  clear ht hr4 HR3 HBB
  simp only [tI]
  go_wp2_with fail
  refine (rstr_any _ g _ (0 + 2) (2 == 0) 5 _ HR4.out).mono ?_
  rw [show foundS (2 == 0) [172, 2, 2, 97, 98, 7] (0 + 2) 5 = ([97, 98], 3) by decide]
  rintro e w5 ht
  obtain ⟨rfl, hr5, _⟩ := id ht
  have HR5 := Lib.hid hr5
  have HB5 := Lib.hid (took_below ht HB4.out HB4.out.size hs1)
  clear ht hr5 HR4 HB4
  simp only [tS]
  have se : ((strOfNums [97, 98]).toList == [97, 98]) = true := by rw [Lib.strOfNums_toList]; decide
  go_wp2_with fail
  clear se
  refine (left_any _ g _ (0 + 2 + 3) _ _ HR5.out).mono ?_
  rintro e w6 ⟨rfl, m6, hm⟩
  have HR6 := Lib.hid (show Rd w6 _ g _ _ _ by rw [hm]; exact HR5.out.drewN m6)
  have HB6 := Lib.hid (show Below w.heap.size w w6 by rw [hm]; exact below_drawn HB5.out m6)
  clear hm HR5 HB5
  go_wp2_with fail
  refine (at_any _ g _ (0 + 2 + 3) _ _ HR6.out).mono ?_
  rintro e w7 ⟨rfl, rfl⟩
  go_wp2_with fail
  refine (rbyte_any _ g _ (0 + 2 + 3) (3 == 0) 6 _ HR6.out).mono ?_
  rw [show foundB (3 == 0) [172, 2, 2, 97, 98, 7] (0 + 2 + 3) 6 = (0, 0) by decide]
  rintro e w7 ht
  obtain ⟨rfl, hr7, _⟩ := id ht
  have HR7 := Lib.hid hr7
  have HB7 := Lib.hid (took_below ht HB6.out HB6.out.size hs1)
  clear ht hr7 HR6 HB6
  simp only [tI]
  go_wp2_with fail
  refine (bad_any _ g _ (0 + 2 + 3 + 0) (0 == 0) _ HR7.out).mono ?_
  rintro e w8 ⟨rfl, rfl⟩
  go_wp2_with fail
  refine (end_any _ g _ (0 + 2 + 3 + 0) (0 == 0) _ HR7.out).mono ?_
  rintro e w8 ⟨rfl, m8, hm⟩
  have HB8 := Lib.hid (show Below w.heap.size w w8 by rw [hm]; exact below_drawn HB7.out m8)
  clear hm HR7 HB7
  go_wp2_with fail
  refine (put_any none 0 0 [] 300 _ rfl (by omega) (Lib.BytesIn.nil _ _ _) (by omega)).mono ?_
  rw [num300, List.nil_append]
  rintro e w9 ⟨u, rfl, ho, hb9⟩
  obtain ⟨q, c, rfl, _, hi, _⟩ := own_bytes ho
  have HB9 := Lib.hid (seqB HB8.out hb9)
  have cv : (convert 22 9 (.slice q 2 c)).run Try.prog w9 = .ok (.string (strOfNums [172, 2])) w9 := conv_bytes hi rfl c
  have se : ((strOfNums [172, 2]).toList == [172, 2]) = true := by rw [Lib.strOfNums_toList]; decide
  clear ho hb9 hi HB8
  go_wp2_with fail
  go_ret
  exact ⟨rfl, HB9.out⟩
end Go.Proofs.Ytanbggegbhcfhaa

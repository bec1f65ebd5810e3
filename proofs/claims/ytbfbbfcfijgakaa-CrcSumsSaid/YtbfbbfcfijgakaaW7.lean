/-
  Contracts: what the document's own Seal and Open answer. Conditions: as each states.
-/
import Derived.Test.YtbfbbfcfijgakaaW6
namespace Go.Proofs.Ytbfbbfcfijgakaa
open Go.RowKit

theorem str_append (xs ys : List Int) : strOfNums xs ++ strOfNums ys = strOfNums (xs ++ ys) := by
  unfold strOfNums
  rw [ByteArray.mk_append_mk, List.map_append]
theorem rsum_str (xs : List Int) (hb : AllB xs) (hs : xs.length ≤ 5000) (w : World) : Calls Try.prog 11 #[.string (strOfNums xs)] w fun e w' => e = .returned (.int .u32 (sumB xs).toNat) ∧ Below w.heap.size w w' := by
  have h := rsum_any (strOfNums xs) (by rw [strOfNums_size]; exact hs) w
  rw [nums_str xs hb] at h
  exact h

set_option maxHeartbeats 800000 in
theorem rseal_any (xs : List Int) (hb : AllB xs) (hs : xs.length ≤ 5000) (w : World) : Calls Try.prog 18 #[.string (strOfNums xs)] w fun e w' => e = .returned (.string (strOfNums (sealL xs))) ∧ Below w.heap.size w w' := by
  have HB := Lib.hid hb
  have s1 : (strOfNums xs).size ≤ 5000 := by rw [strOfNums_size]; exact hs
  have s2 : (strOfNums (tailL (sumB xs))).size ≤ 5000 := by rw [strOfNums_size]; simp [tailL]
  have HA := Lib.hid (str_append xs (tailL (sumB xs)))
  clear hb
  obtain ⟨S, HS⟩ : ∃ S, Hid (S = strOfNums xs) := ⟨_, Lib.hid rfl⟩
  obtain ⟨T, HT⟩ : ∃ T, Hid (T = strOfNums (tailL (sumB xs))) := ⟨_, Lib.hid rfl⟩
  rw [← HS.out, ← HT.out] at HA
  rw [← HS.out] at s1 ⊢
  rw [← HT.out] at s2
  go_enter Try.func18, Try.ntmps18
  go_wp2_with fail
  rw [HS.out]
  refine (rsum_str xs HB.out hs _).mono ?_
  rintro e w1 ⟨rfl, hb1⟩
  have HB1 := Lib.hid hb1
  clear hb1
  go_wp2_with fail
  refine (rtail_any _ _).mono ?_
  rintro e w2 ⟨rfl, hb2⟩
  have HB2 := Lib.hid hb2
  clear hb2
  rw [← HS.out, ← HT.out]
  go_wp2_with fail
  go_ret
  exact ⟨by rw [show sealL xs = xs ++ tailL (sumB xs) from rfl, ← HA.out]; rfl, seqB HB1.out HB2.out⟩

theorem str_take (xs : List Int) (m : Nat) (hx : xs.length = m + 4) : (strOfNums xs).extract 0 ((strOfNums xs).size - 4) = strOfNums (xs.take m) := by
  rw [strOfNums_size, hx, Nat.add_sub_cancel]
  apply ByteArray.ext
  apply Array.ext'
  simp [strOfNums, ByteArray.data_extract, List.map_take]
theorem seal_take (xs : List Int) (m : Nat) (hx : xs.length = m + 4) : decide (sealL (xs.take m) = xs) = okB xs := by
  unfold okB sealL
  rw [hx, Nat.add_sub_cancel, decide_eq_decide]
  constructor
  · intro h
    have e : xs.take m ++ tailL (sumB (xs.take m)) = xs.take m ++ xs.drop m := by rw [h, List.take_append_drop]
    exact (List.append_cancel_left e).symm
  · intro h
    rw [← h, List.take_append_drop]
set_option maxHeartbeats 800000 in
theorem ropen_yes (xs : List Int) (m : Nat) (hb : AllB xs) (hx : xs.length = m + 4) (hs : m + 4 ≤ 5000) (hok : okB xs = true) (w : World) : Calls Try.prog 17 #[.string (strOfNums xs)] w fun e w' => e = .returned (.tuple #[.string (strOfNums (xs.take m)), .bool true]) ∧ Below w.heap.size w w' := by
  have HB := Lib.hid hb
  have HX := Lib.hid hx
  have s1 : (strOfNums xs).size ≤ 5000 := by rw [strOfNums_size]; omega
  have s2 : 4 ≤ (strOfNums xs).size := by rw [strOfNums_size]; omega
  have HE := Lib.hid (str_take xs m hx)
  have hsl := seal_take xs m hx
  rw [hok] at hsl
  obtain ⟨S, HS⟩ : ∃ S, Hid (S = strOfNums xs) := ⟨_, Lib.hid rfl⟩
  obtain ⟨T, HT⟩ : ∃ T, Hid (T = strOfNums (xs.take m)) := ⟨_, Lib.hid rfl⟩
  rw [← HS.out, ← HT.out] at HE
  rw [← HS.out] at s1 s2 ⊢
  have HSL := Lib.hid (show strOfNums (sealL (xs.take m)) = S by rw [of_decide_eq_true hsl, HS.out])
  clear hb hx hok hsl
  go_enter Try.func17, Try.ntmps17
  go_wp2_with fail
  rw [HE.out, HT.out]
  refine (rseal_any (xs.take m) (fun x hx => HB.out x (List.mem_of_mem_take hx)) (by rw [List.length_take, HX.out]; omega) _).mono ?_
  rintro e w1 ⟨rfl, hb1⟩
  have HB1 := Lib.hid hb1
  clear hb1
  rw [← HT.out]
  rw [HSL.out]
  go_wp2_with fail
  go_ret2
  rw [← HT.out]
  exact ⟨by simp [HE.out], HB1.out⟩
set_option maxHeartbeats 800000 in
theorem ropen_no (xs : List Int) (m : Nat) (hb : AllB xs) (hx : xs.length = m + 4) (hs : m + 4 ≤ 5000) (hok : okB xs = false) (w : World) : Calls Try.prog 17 #[.string (strOfNums xs)] w fun e w' => e = .returned (.tuple #[.string ⟨#[]⟩, .bool false]) ∧ Below w.heap.size w w' := by
  have HB := Lib.hid hb
  have HX := Lib.hid hx
  have s1 : (strOfNums xs).size ≤ 5000 := by rw [strOfNums_size]; omega
  have s2 : 4 ≤ (strOfNums xs).size := by rw [strOfNums_size]; omega
  have HE := Lib.hid (str_take xs m hx)
  have hsl := seal_take xs m hx
  rw [hok] at hsl
  obtain ⟨S, HS⟩ : ∃ S, Hid (S = strOfNums xs) := ⟨_, Lib.hid rfl⟩
  obtain ⟨T, HT⟩ : ∃ T, Hid (T = strOfNums (xs.take m)) := ⟨_, Lib.hid rfl⟩
  rw [← HS.out, ← HT.out] at HE
  rw [← HS.out] at s1 s2 ⊢
  obtain ⟨E, HE2⟩ : ∃ E, Hid (E = strOfNums (sealL (xs.take m))) := ⟨_, Lib.hid rfl⟩
  have e0 : (E.toList == S.toList) = false := by
    rw [HE2.out, HS.out, Lib.strOfNums_toList, Lib.strOfNums_toList, bytesOf_eq (allB_seal _ (fun x hx => hb x (List.mem_of_mem_take hx))) hb]
    exact hsl
  have e1 : (E.toList != S.toList) = true := by simp [bne, e0]
  clear hb hx hok hsl
  go_enter Try.func17, Try.ntmps17
  go_wp2_with fail
  rw [HE.out, HT.out]
  refine (rseal_any (xs.take m) (fun x hx => HB.out x (List.mem_of_mem_take hx)) (by rw [List.length_take, HX.out]; omega) _).mono ?_
  rintro e w1 ⟨rfl, hb1⟩
  have HB1 := Lib.hid hb1
  clear hb1
  rw [← HT.out]
  rw [← HE2.out]
  go_wp2_with fail
  go_ret2
  exact ⟨rfl, HB1.out⟩
theorem ropen_short (xs : List Int) (hs : xs.length < 4) (w : World) : Calls Try.prog 17 #[.string (strOfNums xs)] w fun e w' => e = .returned (.tuple #[.string ⟨#[]⟩, .bool false]) ∧ Below w.heap.size w w' := by
  have s1 : (strOfNums xs).size < 4 := by rw [strOfNums_size]; exact hs
  generalize strOfNums xs = S at *
  have c0 : decide ((S.size : Int) < 4) = true := by simp; omega
  go_enter Try.func17, Try.ntmps17
  go_wp2_with fail
  go_ret2
  exact ⟨rfl, Below.refl _ _⟩
end Go.Proofs.Ytbfbbfcfijgakaa

/-
  The walk of chicanelaw03.CrcSeals: it returns true, whatever bytes. Conditions: as each states.
-/
import Derived.Test.YtbfbbfcfijgakaaW7
import Derived.Deep.RegionHeld3
namespace Go.Proofs.Ytbfbbfcfijgakaa.crcSeals
open Go.RowKit

/-- What is opened of bytes, and whether it is. -/
def openL (xs : List Int) : List Int × Bool := if 4 ≤ xs.length ∧ okB xs = true then (xs.take (xs.length - 4), true) else ([], false)
theorem openL_yes (xs : List Int) (m : Nat) (hx : xs.length = m + 4) (h : okB xs = true) : openL xs = (xs.take m, true) := by
  unfold openL
  rw [if_pos ⟨by omega, h⟩, hx, Nat.add_sub_cancel]
theorem openL_no (xs : List Int) (h : okB xs = false) : openL xs = ([], false) := by
  unfold openL
  rw [if_neg (by simp [h])]
theorem openL_short (xs : List Int) (h : xs.length < 4) : openL xs = ([], false) := by
  unfold openL
  rw [if_neg (by omega)]
theorem open_all (p : Option Addr) (n c : Nat) (xs : List Int) (w : World) (hx : xs.length = n) (hnc : n ≤ c) (hbig : n ≤ 140737488355328) (hb : AllB xs) (hi : Lib.BytesIn w p n xs) :
    Calls Try.prog 16 #[.slice p n c] w fun e w' => ∃ q d, e = .returned (.tuple #[.slice q (openL xs).1.length d, .bool (openL xs).2]) ∧ Lib.BytesIn w' q (openL xs).1.length (openL xs).1 ∧ Below w.heap.size w w' := by
  by_cases h4 : n < 4
  · rw [openL_short xs (by omega)]
    refine (open_short p n c w h4).mono ?_
    rintro e w' ⟨rfl, hb'⟩
    exact ⟨none, 0, rfl, Lib.BytesIn.nil _ _ _, hb'⟩
  obtain ⟨m, rfl⟩ : ∃ m, n = m + 4 := ⟨n - 4, by omega⟩
  obtain ⟨b, o, rfl, _⟩ := hi.at (by omega)
  cases hok : okB xs
  · rw [openL_no xs hok]
    refine (open_no b o m c xs w hx hnc hbig hb hi hok).mono ?_
    rintro e w' ⟨rfl, hb'⟩
    exact ⟨none, 0, rfl, Lib.BytesIn.nil _ _ _, hb'⟩
  · rw [openL_yes xs m hx hok]
    refine (open_yes b o m c xs w hx hnc hbig hb hi hok).mono ?_
    rintro e w' ⟨v, rfl, hown, hb'⟩
    obtain ⟨q, d, rfl, hl, hi', _⟩ := own_bytes hown
    exact ⟨q, d, by rw [hl], by rw [hl]; exact hi', hb'⟩
theorem ropen_all (xs : List Int) (w : World) (hb : AllB xs) (hs : xs.length ≤ 5000) :
    Calls Try.prog 17 #[.string (strOfNums xs)] w fun e w' => e = .returned (.tuple #[.string (strOfNums (openL xs).1), .bool (openL xs).2]) ∧ Below w.heap.size w w' := by
  by_cases h4 : xs.length < 4
  · rw [openL_short xs h4]
    exact ropen_short xs h4 w
  obtain ⟨m, hx⟩ : ∃ m, xs.length = m + 4 := ⟨xs.length - 4, by omega⟩
  cases hok : okB xs
  · rw [openL_no xs hok]
    exact ropen_no xs m hb hx (by omega) hok w
  · rw [openL_yes xs m hx hok]
    exact ropen_yes xs m hb hx (by omega) hok w
theorem rseal_is (A B : ByteArray) (xs : List Int) (hB : B = strOfNums xs) (hA : A = strOfNums (sealL xs)) (hb : AllB xs) (hs : xs.length ≤ 5000) (w : World) :
    Calls Try.prog 18 #[.string B] w fun e w' => e = .returned (.string A) ∧ Below w.heap.size w w' := by
  rw [hB, hA]
  exact rseal_any xs hb hs w

set_option maxHeartbeats 2000000 in
theorem walk_long (p : Option Addr) (n c : Nat) (h : 2000 < n) (w : World) :
    Calls Try.prog 4 #[.slice p n c] w fun e w' => e = .returned (.bool true) ∧ Below w.heap.size w w' := by
  have d1 : decide ((2000 : Int) < (n : Int)) = true := by simp; omega
  go_enter Try.func4, Try.ntmps4
  go_wp2_with fail
  refine (alive_any _).mono ?_
  rintro e w5 ⟨rfl, hb5⟩
  have HB5 := Lib.hid hb5
  clear hb5
  go_wp2_with fail
  go_ret
  exact ⟨rfl, HB5.out⟩

set_option maxHeartbeats 8000000 in
theorem walk_main (p : Option Addr) (n c : Nat) (xs : List Int) (w : World) (hx : xs.length = n) (hb : AllB xs) (hnc : n ≤ c) (hpc : p = none → c = 0) (hi : Lib.BytesIn w p n xs) (hn : n ≤ 2000) :
    Calls Try.prog 4 #[.slice p n c] w fun e w' => e = .returned (.bool true) ∧ Below w.heap.size w w' := by
  have HX := Lib.hid hx
  have HA := Lib.hid hb
  have HP := Lib.hid hpc
  have HI := Lib.hid hi
  have hn5 : xs.length ≤ 5000 := by omega
  have HN5 := Lib.hid hn5
  have d1 : decide ((2000 : Int) < (n : Int)) = false := by simp; omega
  clear hx hb hpc hi hn5
  go_enter Try.func4, Try.ntmps4
  go_wp2_with fail
  refine (seal_any p n c xs _ HX.out (by omega) HA.out HP.out HI.out).mono ?_
  rintro e w1 ⟨v, rfl, hown, hb1⟩
  obtain ⟨q1, c1, rfl, hl1, hi1, hpc1, hnc1, _⟩ := own_bytes hown
  have HB1 := Lib.hid hb1
  have HI1 := Lib.hid hi1
  have HL1 := Lib.hid hl1
  clear hown hb1 hi1 hl1 hpc1
  obtain ⟨b1, o1, rfl, _⟩ := HI1.out.at (by omega)
  go_wp2_with fail
  refine (open_yes b1 o1 n c1 (sealL xs) _ HL1.out hnc1 (by omega) (allB_seal _ HA.out) HI1.out (okB_seal _ HA.out)).mono ?_
  rintro e w2 ⟨v, rfl, hown, hb2⟩
  rw [take_seal xs n HX.out] at hown
  obtain ⟨q2, c2, rfl, hl2, hi2, _, _, _⟩ := own_bytes hown
  have HB2 := Lib.hid hb2
  have HI2 := Lib.hid hi2
  clear hown hb2 hi2 hl2
  go_wp2_with fail
  have HB02 := Lib.hid (seqB HB1.out HB2.out)
  refine (open_all p n c xs _ HX.out hnc (by omega) HA.out (bytes_on HI.out HB02.out)).mono ?_
  rintro e w3 ⟨q3, c3, rfl, hi3, hb3⟩
  have HB3 := Lib.hid hb3
  have HI3 := Lib.hid hi3
  clear hb3 hi3
  have HB03 := Lib.hid (seqB HB02.out HB3.out)
  have HRO := Lib.hid (fun w => ropen_all xs w HA.out HN5.out)
  obtain ⟨ys, hys⟩ : ∃ ys, (openL xs).1 = ys := ⟨_, rfl⟩
  obtain ⟨t, ht⟩ : ∃ t, (openL xs).2 = t := ⟨_, rfl⟩
  rw [hys] at HI3 HRO
  rw [ht] at HRO
  rw [hys, ht]
  obtain ⟨l, hl⟩ : ∃ l, ys.length = l := ⟨_, rfl⟩
  rw [hl] at HI3
  rw [hl]
  have HL := Lib.hid hl
  clear hys ht hl
  have cv0 := conv_bytes (bytes_on HI.out HB03.out) HX.out c
  go_wp2_with fail
  clear cv0
  refine (HRO.out _).mono ?_
  rintro e w4 ⟨rfl, hb4⟩
  have HB4 := Lib.hid hb4
  clear hb4 HRO
  obtain ⟨A, HSA⟩ : ∃ A, Hid (A = strOfNums (sealL xs)) := ⟨_, Lib.hid rfl⟩
  obtain ⟨B, HSB⟩ : ∃ B, Hid (B = strOfNums xs) := ⟨_, Lib.hid rfl⟩
  obtain ⟨Y, HSY⟩ : ∃ Y, Hid (Y = strOfNums ys) := ⟨_, Lib.hid rfl⟩
  rw [← HSB.out, ← HSY.out]
  have HCV := Lib.hid (show ∀ (w' : World) (h : Below w4.heap.size w4 w'), (convert 22 9 (.slice (some ⟨b1, o1, none⟩) (n + 4) c1)).run Try.prog w' = .ok (.string A) w' ∧ (convert 22 9 (.slice p n c)).run Try.prog w' = .ok (.string B) w' ∧ (convert 22 9 (.slice q2 n c2)).run Try.prog w' = .ok (.string B) w' ∧ (convert 22 9 (.slice q3 l c3)).run Try.prog w' = .ok (.string Y) w' ∧ Below w4.heap.size w4 w' from fun w' h => by
    rw [HSA.out, HSB.out, HSY.out]
    exact ⟨conv_bytes (bytes_on (bytes_on (bytes_on (bytes_on HI1.out HB2.out) HB3.out) HB4.out) h) HL1.out c1, conv_bytes (bytes_on (bytes_on (bytes_on HI.out HB03.out) HB4.out) h) HX.out c, conv_bytes (bytes_on (bytes_on (bytes_on HI2.out HB3.out) HB4.out) h) HX.out c2, conv_bytes (bytes_on (bytes_on HI3.out HB4.out) h) HL.out c3, h⟩)
  go_wp2_with fail
  go_region_held3 (fun w' => (convert 22 9 (.slice (some ⟨b1, o1, none⟩) (n + 4) c1)).run Try.prog w' = .ok (.string A) w' ∧ (convert 22 9 (.slice p n c)).run Try.prog w' = .ok (.string B) w' ∧ (convert 22 9 (.slice q2 n c2)).run Try.prog w' = .ok (.string B) w' ∧ (convert 22 9 (.slice q3 l c3)).run Try.prog w' = .ok (.string Y) w' ∧ Below w4.heap.size w4 w')
    (first
      | exact HCV.out _ (Below.refl _ _).drew
      | (go_split_ands; exact HCV.out _ (by assumption))
      | (go_split_ands; exact HCV.out _ (Below.drew (by assumption)))
      | (go_split_ands; exact HCV.out _ (seqB (by assumption) (by assumption))))
    (first
      | (go_at_call 10; refine (alive_any _).mono ?_; rintro e w' ⟨rfl, hb'⟩)
      | (go_at_call 18; refine (rseal_is A B xs HSB.out HSA.out HA.out HN5.out _).mono ?_; rintro e w' ⟨rfl, hb'⟩))
  go_split_ands
  go_wp2_with fail
  go_ret
  exact ⟨rfl, seqB HB03.out (seqB HB4.out (by assumption))⟩

theorem walk (p : Option Addr) (n c : Nat) (xs : List Int) (w : World) (hx : xs.length = n) (hb : AllB xs) (hnc : n ≤ c) (hpc : p = none → c = 0) (hi : Lib.BytesIn w p n xs) :
    Calls Try.prog 4 #[.slice p n c] w fun e w' => e = .returned (.bool true) ∧ Below w.heap.size w w' := by
  by_cases h : 2000 < n
  · exact walk_long p n c h w
  · exact walk_main p n c xs w hx hb hnc hpc hi (by omega)
end Go.Proofs.Ytbfbbfcfijgakaa.crcSeals

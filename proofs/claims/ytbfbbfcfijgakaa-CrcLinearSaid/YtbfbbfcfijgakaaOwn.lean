/-
  The walk of chicanelaw03.CrcOwn: it returns true, whatever bytes. Conditions: as each states.
-/
import Derived.Test.YtbfbbfcfijgakaaW4
import Derived.Laws.OwnMore
namespace Go.Proofs.Ytbfbbfcfijgakaa.crcOwn
open Go.RowKit

set_option maxHeartbeats 2000000 in
theorem walk_none (p : Option Addr) (cap : Nat) (c : Int) (w : World) :
    Calls Try.prog 7 #[.slice p 0 cap, .int .u8 c] w fun e w' => e = .returned (.bool true) ∧ Below w.heap.size w w' := by
  go_enter Try.func7, Try.ntmps7
  go_wp2_with fail
  refine (alive_any _).mono ?_
  rintro e w5 ⟨rfl, hb5⟩
  have HB5 := Lib.hid hb5
  clear hb5
  go_wp2_with fail
  go_ret
  exact ⟨rfl, HB5.out⟩
set_option maxHeartbeats 2000000 in
theorem walk_long (p : Option Addr) (n cap : Nat) (c : Int) (h : 1000 < n) (w : World) :
    Calls Try.prog 7 #[.slice p n cap, .int .u8 c] w fun e w' => e = .returned (.bool true) ∧ Below w.heap.size w w' := by
  have d0 : ((n : Int) == 0) = false := by simp; omega
  have d1 : decide ((1000 : Int) < (n : Int)) = true := by simp; omega
  go_enter Try.func7, Try.ntmps7
  go_wp2_with fail
  refine (alive_any _).mono ?_
  rintro e w5 ⟨rfl, hb5⟩
  have HB5 := Lib.hid hb5
  clear hb5
  go_wp2_with fail
  go_ret
  exact ⟨rfl, HB5.out⟩

theorem own_row {w : World} {base n : Nat} {v : Value} {zs : List Value} (h : w.ownsRow base 5 1 v n zs) (hn : 1 ≤ n) :
    ∃ g cap, v = .slice (some ⟨g, 0, none⟩) n cap ∧ base ≤ g ∧ n ≤ cap := by
  obtain ⟨hl, ⟨_, h0⟩ | ⟨g, cap, cur, rfl, hb, hh, h1, h2, h3, h4⟩⟩ := h
  · omega
  · exact ⟨g, cap, rfl, hb, h1⟩
theorem own_in {w : World} {base n g cap : Nat} {ys : List Int} (h : w.ownsRow base 5 1 (.slice (some ⟨g, 0, none⟩) n cap) n (ys.map (Value.int .u8))) : Lib.BytesIn w (some ⟨g, 0, none⟩) n ys := by
  obtain ⟨p', c', e, _, h, _⟩ := own_bytes h
  cases e
  exact h
theorem getD_map8 (zs : List Int) (k : Nat) (h : k < zs.length) : (zs.map (Value.int .u8))[k]? = some (.int .u8 (zs.getD k 0)) := by
  rw [List.getElem?_map, List.getD_eq_getElem?_getD, List.getElem?_eq_getElem h]
  rfl

set_option maxHeartbeats 2000000 in
theorem walk_main (p : Option Addr) (n cap : Nat) (c : Int) (xs : List Int) (w : World) (hx : xs.length = n) (hb : AllB xs) (hpc : p = none → cap = 0) (hi : Lib.BytesIn w p n xs)
    (h1 : 1 ≤ n) (hn : n ≤ 1000) :
    Calls Try.prog 7 #[.slice p n cap, .int .u8 c] w fun e w' => e = .returned (.bool true) ∧ Below w.heap.size w w' := by
  have HX := Lib.hid hx
  have HA := Lib.hid hb
  have HP := Lib.hid hpc
  have HI := Lib.hid hi
  have cv0 := conv_bytes hi hx cap
  have d0 : ((n : Int) == 0) = false := by simp; omega
  have d1 : decide ((1000 : Int) < (n : Int)) = false := by simp; omega
  clear hx hb hpc hi
  go_enter Try.func7, Try.ntmps7
  go_wp2_with fail
  clear cv0
  refine (seal_any p n cap xs _ HX.out (by omega) HA.out HP.out HI.out).mono ?_
  rintro e w1 ⟨v, rfl, hown, hb1⟩
  obtain ⟨g, cap1, rfl, hg1, hgc⟩ := own_row hown (by omega)
  have HB1 := Lib.hid hb1
  have gc : _ = some (Value.int .u8 ((sealL xs).getD 0 0)) := (hown.cellAt 0 (by omega)).trans (getD_map8 _ _ (by rw [length_seal]; omega))
  have gf := hown.frozenAt 0
  clear hown hb1
  go_wp2_with fail
  generalize hw2 : w1.setCell ⟨g, 0, none⟩ (.int .u8 c) = w2
  have HB2 := Lib.hid (show Below w.heap.size w w2 by rw [← hw2]; exact HB1.out.setCell hg1 _)
  clear hw2 gc gf
  have HI2 := Lib.hid (bytes_on HI.out HB2.out)
  refine (seal_any p n cap xs _ HX.out (by omega) HA.out HP.out HI2.out).mono ?_
  rintro e w3 ⟨v, rfl, hown, hb3⟩
  obtain ⟨g2, cap2, rfl, hg2, hgc2⟩ := own_row hown (by omega)
  have HB3 := Lib.hid hb3
  have HT3 := Lib.hid (own_in hown)
  clear hown hb3
  go_wp2_with fail
  refine (open_yes g2 0 n cap2 (sealL xs) _ (by rw [length_seal, HX.out]) hgc2 (by omega) (allB_seal _ HA.out) HT3.out (okB_seal _ HA.out)).mono ?_
  rintro e w4 ⟨v, rfl, hown, hb4⟩
  rw [take_seal xs n HX.out] at hown
  obtain ⟨g3, cap3, rfl, hg3, hgc3⟩ := own_row hown (by omega)
  have HB4 := Lib.hid hb4
  have gc : _ = some (Value.int .u8 (xs.getD 0 0)) := (hown.cellAt 0 (by omega)).trans (getD_map8 _ _ (by rw [HX.out]; omega))
  have gf := hown.frozenAt 0
  clear hown hb4
  have d2 : ((n : Int) != (n : Int)) = false := by simp
  go_wp2_with fail
  generalize hw5 : w4.setCell ⟨g3, 0, none⟩ _ = w5
  have HB5 := Lib.hid (show Below w3.heap.size w3 w5 by rw [← hw5]; exact HB4.out.setCell hg3 _)
  clear hw5 gc gf
  have HT5 := Lib.hid (bytes_on HT3.out HB5.out)
  refine (open_yes g2 0 n cap2 (sealL xs) _ (by rw [length_seal, HX.out]) hgc2 (by omega) (allB_seal _ HA.out) HT5.out (okB_seal _ HA.out)).mono ?_
  rintro e w6 ⟨v, rfl, hown, hb6⟩
  rw [take_seal xs n HX.out] at hown
  obtain ⟨g4, cap4, rfl, hg4, hgc4⟩ := own_row hown (by omega)
  have HB6 := Lib.hid hb6
  have HT6 := Lib.hid (own_in hown)
  clear hown hb6
  go_wp2_with fail
  refine (alive_any _).mono ?_
  rintro e w7 ⟨rfl, hb7⟩
  have HB7 := Lib.hid hb7
  clear hb7
  have HB27 := Lib.hid (seqB HB3.out (seqB HB5.out (seqB HB6.out HB7.out)))
  have cv1 := conv_bytes (bytes_on HI2.out HB27.out) HX.out cap
  have cv2 := conv_bytes (bytes_on HT6.out HB7.out) HX.out cap4
  go_wp2_with fail
  go_ret
  exact ⟨rfl, seqB HB2.out HB27.out⟩

theorem walk (p : Option Addr) (n cap : Nat) (c : Int) (xs : List Int) (w : World) (hx : xs.length = n) (hb : AllB xs) (hpc : p = none → cap = 0) (hi : Lib.BytesIn w p n xs) :
    Calls Try.prog 7 #[.slice p n cap, .int .u8 c] w fun e w' => e = .returned (.bool true) ∧ Below w.heap.size w w' := by
  by_cases h0 : n = 0
  · subst h0
    exact walk_none p cap c w
  by_cases h1 : 1000 < n
  · exact walk_long p n cap c h1 w
  exact walk_main p n cap c xs w hx hb hpc hi (by omega) (by omega)
end Go.Proofs.Ytbfbbfcfijgakaa.crcOwn

/-
  The walk of the statement TickTexts: it returns true for every number and every text. Conditions: the library's table of powers of ten holds these; the text's length is an int.
-/
import Derived.Test.YtndplngdafnffaaDoorW8
import Derived.Test.YtndplngdafnffaaDoorW5
namespace Go.Proofs.YtndplngdafnffaaDoor.tickTexts
open Go.RowKit

theorem parse_text (n : Int) : parseF (Lib.itoa (near n)) = some (near n) := by
  obtain ⟨h0, h1⟩ := near_range n
  generalize near n = m at *
  obtain ⟨u, rfl⟩ := Int.eq_ofNat_of_zero_le h0
  rw [Lib.itoa_nonneg, parse_dec u (by omega)]
theorem parse_of_text (n : Int) (w : World) : Calls Tryd.prog 23 #[.string ⟨(Lib.itoa (near n)).toArray⟩] w fun e w' => e = .returned (.tuple #[.int .i64 (near n), .int .i64 0]) ∧ Below w.heap.size w w' := by
  refine (parse_any ⟨(Lib.itoa (near n)).toArray⟩ w ?_).mono fun e w' ⟨he, hw⟩ => ⟨?_, hw⟩
  · have := itoa_length (near n) (near_range n).1 (near_range n).2
    show (Lib.itoa (near n)).toArray.size ≤ maxLen
    unfold maxLen
    simp; omega
  · rw [he]
    show parseEnd (parseF (Lib.itoa (near n))) = _
    rw [parse_text]; rfl
theorem text_back (s : ByteArray) (n : Int) (h : parseF s.data.toList = some n) (w : World) (ht : Tab w) : Calls Tryd.prog 25 #[.int .i64 n] w fun e w' => e = .returned (.string s) ∧ Below w.heap.size w w' := by
  obtain ⟨h0, h1, h2, _⟩ := parse_itoa _ _ h
  exact (text_any n w ht).mono fun e w' ⟨he, hw⟩ => ⟨by rw [he, near_of n h0 h1, h2, str_eta], hw⟩
theorem parse_ok (s : ByteArray) (hs : s.size ≤ maxLen) (n : Int) (h : parseF s.data.toList = some n) (w : World) : Calls Tryd.prog 23 #[.string s] w fun e w' => e = .returned (.tuple #[.int .i64 n, .int .i64 0]) ∧ Below w.heap.size w w' :=
  (parse_any s w hs).mono fun e w' ⟨he, hw⟩ => ⟨by rw [he, h]; rfl, hw⟩
theorem parse_no (s : ByteArray) (hs : s.size ≤ maxLen) (h : parseF s.data.toList = none) (w : World) : Calls Tryd.prog 23 #[.string s] w fun e w' => e = .returned (.tuple #[.int .i64 0, .int .i64 10]) ∧ Below w.heap.size w w' :=
  (parse_any s w hs).mono fun e w' ⟨he, hw⟩ => ⟨by rw [he, h]; rfl, hw⟩
theorem rparse_ok (s : ByteArray) (hs : s.size ≤ maxLen) (n : Int) (h : parseF s.data.toList = some n) (w : World) : Calls Tryd.prog 24 #[.string s] w fun e w' => e = .returned (.tuple #[.int .i64 n, .int .i64 0]) ∧ w = w' :=
  (rparse_any s w hs).mono fun e w' ⟨he, hw⟩ => ⟨by rw [he, h]; rfl, hw⟩
theorem rparse_no (s : ByteArray) (hs : s.size ≤ maxLen) (h : parseF s.data.toList = none) (w : World) : Calls Tryd.prog 24 #[.string s] w fun e w' => e = .returned (.tuple #[.int .i64 0, .int .i64 10]) ∧ w = w' :=
  (rparse_any s w hs).mono fun e w' ⟨he, hw⟩ => ⟨by rw [he, h]; rfl, hw⟩

set_option maxHeartbeats 1600000 in
theorem walk (n : Int) (s : ByteArray) (hs : s.size ≤ maxLen) (w : World) (ht : Tab w) :
    Calls Tryd.prog 5 #[.int .i64 n, .string s] w fun e w' => e = .returned (.bool true) ∧ Below w.heap.size w w' := by
  have HT := Lib.hid ht
  clear ht
  cases hp : parseF s.data.toList with
  | some x =>
    have H1 := Lib.hid (parse_ok s hs x hp)
    have H2 := Lib.hid (rparse_ok s hs x hp)
    have H3 := Lib.hid (text_back s x hp)
    clear hp hs
    go_enter Tryd.func5, Tryd.ntmps5
    go_wp2_with fail
    refine (H1.out _).mono ?_
    rintro e w1 ⟨rfl, hb1⟩
    have HB1 := Lib.hid hb1
    clear hb1
    go_wp2_with fail
    refine (H2.out _).mono ?_
    rintro e w' ⟨rfl, rfl⟩
    go_wp2_with fail
    refine (text_any _ _ (tab_on HT.out HB1.out)).mono ?_
    rintro e w2 ⟨rfl, hb2⟩
    have HB2 := Lib.hid (HB1.out.trans (hb2.mono HB1.out.size))
    clear hb2 HB1
    go_wp2_with fail
    refine (parse_of_text _ _).mono ?_
    rintro e w3 ⟨rfl, hb3⟩
    have HB3 := Lib.hid (HB2.out.trans (hb3.mono HB2.out.size))
    clear hb3 HB2
    go_wp2_with fail
    refine (alive_any _ (tab_on HT.out HB3.out)).mono ?_
    rintro e w4 ⟨rfl, hb4⟩
    have HB4 := Lib.hid (HB3.out.trans (hb4.mono HB3.out.size))
    clear hb4 HB3
    go_wp2_with fail
    refine (text_any _ _ (tab_on HT.out HB4.out)).mono ?_
    rintro e w5 ⟨rfl, hb5⟩
    have HB5 := Lib.hid (HB4.out.trans (hb5.mono HB4.out.size))
    clear hb5 HB4
    go_wp2_with fail
    refine (rtext_any _ _).mono ?_
    rintro e w' ⟨rfl, rfl⟩
    go_wp2_with fail
    refine (rnear_any _ _).mono ?_
    rintro e w' ⟨rfl, rfl⟩
    go_wp2_with fail
    refine (H3.out _ (tab_on HT.out HB5.out)).mono ?_
    rintro e w6 ⟨rfl, hb6⟩
    have HB6 := Lib.hid (HB5.out.trans (hb6.mono HB5.out.size))
    clear hb6 HB5
    go_wp2_with fail
    go_ret
    exact ⟨rfl, HB6.out⟩
  | none =>
    have H1 := Lib.hid (parse_no s hs hp)
    have H2 := Lib.hid (rparse_no s hs hp)
    clear hp hs
    go_enter Tryd.func5, Tryd.ntmps5
    go_wp2_with fail
    refine (H1.out _).mono ?_
    rintro e w1 ⟨rfl, hb1⟩
    have HB1 := Lib.hid hb1
    clear hb1
    go_wp2_with fail
    refine (H2.out _).mono ?_
    rintro e w' ⟨rfl, rfl⟩
    go_wp2_with fail
    refine (text_any _ _ (tab_on HT.out HB1.out)).mono ?_
    rintro e w2 ⟨rfl, hb2⟩
    have HB2 := Lib.hid (HB1.out.trans (hb2.mono HB1.out.size))
    clear hb2 HB1
    go_wp2_with fail
    refine (parse_of_text _ _).mono ?_
    rintro e w3 ⟨rfl, hb3⟩
    have HB3 := Lib.hid (HB2.out.trans (hb3.mono HB2.out.size))
    clear hb3 HB2
    go_wp2_with fail
    refine (alive_any _ (tab_on HT.out HB3.out)).mono ?_
    rintro e w4 ⟨rfl, hb4⟩
    have HB4 := Lib.hid (HB3.out.trans (hb4.mono HB3.out.size))
    clear hb4 HB3
    go_wp2_with fail
    refine (text_any _ _ (tab_on HT.out HB4.out)).mono ?_
    rintro e w5 ⟨rfl, hb5⟩
    have HB5 := Lib.hid (HB4.out.trans (hb5.mono HB4.out.size))
    clear hb5 HB4
    go_wp2_with fail
    refine (rtext_any _ _).mono ?_
    rintro e w' ⟨rfl, rfl⟩
    go_wp2_with fail
    refine (rnear_any _ _).mono ?_
    rintro e w' ⟨rfl, rfl⟩
    go_wp2_with fail
    go_ret
    exact ⟨rfl, HB5.out⟩
end Go.Proofs.YtndplngdafnffaaDoor.tickTexts

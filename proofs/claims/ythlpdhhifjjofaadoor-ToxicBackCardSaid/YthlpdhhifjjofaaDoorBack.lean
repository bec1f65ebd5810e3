/-
  The walk of chicanelaw09.ToxicBack: it returns true, whatever toxic. Conditions: what of the world the program's functions read.
-/
import Derived.Test.YthlpdhhifjjofaaDoorChecks
namespace Go.Proofs.YthlpdhhifjjofaaDoor.toxicBack
open Go.RowKit

theorem text_size {s : ByteArray} (hs : s.size ≤ 1000) (k : Int) (up : Bool) (o a b : Int) : (textB s k up o a b).size ≤ 1000000 := by
  have h1 := word_size k
  have h2 := way_size up
  have h3 := it_size o
  have h4 := it_size a
  have h5 := it_size b
  have h6 : (⟨#[32]⟩ : ByteArray).size = 1 := rfl
  have h7 : (txt5 s k up o a).size ≤ 1050 := by
    unfold txt5
    simp only [cat_size]
    omega
  unfold textB
  split
  · split
    · simp only [cat_size]
      omega
    · omega
  · decide
set_option maxRecDepth 100000 in
set_option maxHeartbeats 4000000 in
theorem long (s : ByteArray) (hs : s.size ≤ maxLen) (k : Int) (up : Bool) (o a b : Int) (w : World) (hf : Fit w) (h : 1000 < s.size) :
    Calls Tryd.prog 5 #[.agg #[.string s, .int .i64 k, .bool up, .int .i64 o, .int .i64 a, .int .i64 b]] w fun e w' => e = .returned (.bool true) ∧ Below w.heap.size w w' := by
  have HX := Lib.hid (toxicChecks.start w s k up o a b)
  have HA := Lib.hid (alive_any _ (fit_on hf HX.out.2.2))
  unfold maxLen at hs
  have d1 : decide (1000 < s.size) = true := by simpa using h
  clear hf
  go_enter Tryd.func5, Tryd.ntmps5
  go_wp2_with fail
  refine HA.out.mono ?_
  rintro e w3 ⟨rfl, hb⟩
  have HE := Lib.hid (HX.out.on hb).2.2
  clear hb HX
  go_wp2_with fail
  go_ret
  exact ⟨rfl, HE.out⟩
set_option maxRecDepth 100000 in
set_option maxHeartbeats 8000000 in
theorem bad (s : ByteArray) (hs : s.size ≤ 1000) (k : Int) (up : Bool) (o a b : Int) (w : World) (hf : Fit w) (h : checkB s k o a b ≠ 0) :
    Calls Tryd.prog 5 #[.agg #[.string s, .int .i64 k, .bool up, .int .i64 o, .int .i64 a, .int .i64 b]] w fun e w' => e = .returned (.bool true) ∧ Below w.heap.size w w' := by
  have HX := Lib.hid (toxicChecks.start w s k up o a b)
  have HF := Lib.hid (show ∀ W, Below w.heap.size w W → Fit W from fun W hb => fit_on hf hb)
  obtain ⟨X, hX⟩ : ∃ X, textB s k up o a b = X := ⟨_, rfl⟩
  have hxs : X.size ≤ 1000000 := by rw [← hX]; exact text_size hs k up o a b
  have HT := Lib.hid (fun W h => text_i s (by omega) k up o a b W h)
  have HP := Lib.hid (fun W h => parse_i X hxs W h)
  have hp : parseB X = (⟨⟨#[]⟩, 0, false, 0, 0, 0⟩, 90) := by rw [← hX]; exact (by rw [(parse_text_bad up h).1, (parse_text_bad up h).2]; rfl)
  rw [hX] at HT
  rw [hp] at HP
  have HR := Lib.hid (fun W h => right_i s (by unfold maxLen; omega) k up o a b W h)
  rw [show (checkB s k o a b == 0) = false by simpa using h] at HR
  clear hf hX hp h
  go_enter Tryd.func5, Tryd.ntmps5
  go_wp2_with fail
  generalize w.alloc (.cells #[.string s, .int .i64 k, .bool up, .int .i64 o, .int .i64 a, .int .i64 b] 23) = w1 at *
  obtain ⟨g, hg⟩ : ∃ g, w.heap.size = g := ⟨_, rfl⟩
  have HX1 : Hid (Tx w w1 g s k up o a b) := Lib.hid (by rw [← hg]; exact HX.out)
  clear HX
  refine (HT.out _ (HF.out _ HX1.out.2.2)).mono ?_
  rintro e w2 ⟨rfl, hb⟩
  have HX2 := Lib.hid (HX1.out.on hb)
  clear hb HX1
  go_wp2_with fail
  refine (HP.out _ (HF.out _ HX2.out.2.2)).mono ?_
  rintro e w3 ⟨rfl, hb⟩
  have HX3 := Lib.hid (HX2.out.on hb)
  have HY4 := Lib.hid (tx_new HX3.out.2.2 ⟨#[]⟩ 0 false 0 0 0)
  have HX4 := Lib.hid (HX3.out.on ((Below.refl w3.heap.size w3).alloc (Nat.le_refl _) (.cells #[.string ⟨#[]⟩, .int .i64 0, .bool false, .int .i64 0, .int .i64 0, .int .i64 0] 23)))
  obtain ⟨y0, y1, y2, y3, y4, y5⟩ := HX4.out.cells
  have hlt := blk_lt HX3.out.2.1
  clear hb HX2 HX3
  go_wp2_with fail
  clear y0 y1 y2 y3 y4 y5 hlt
  generalize w3.alloc (.cells #[.string ⟨#[]⟩, .int .i64 0, .bool false, .int .i64 0, .int .i64 0, .int .i64 0] 23) = w4 at *
  generalize w3.heap.size = g4 at *
  refine (HR.out _ (HF.out _ HX4.out.2.2)).mono ?_
  rintro e w5 ⟨rfl, hb⟩
  have HX5 := Lib.hid (HX4.out.on hb)
  have HY5 := Lib.hid (HY4.out.on hb)
  clear hb HX4 HY4
  go_wp2_with fail
  refine (alive_any _ (HF.out _ HX5.out.2.2)).mono ?_
  rintro e w6 ⟨rfl, hb⟩
  have HX6 := Lib.hid (HX5.out.on hb)
  have HY6 := Lib.hid (HY5.out.on hb)
  clear hb HX5 HY5
  go_wp2_with fail
  go_ret
  exact ⟨rfl, HX6.out.2.2⟩
set_option maxRecDepth 100000 in
set_option maxHeartbeats 8000000 in
theorem good (s : ByteArray) (hs : s.size ≤ 1000) (k : Int) (up : Bool) (o a b : Int) (w : World) (hf : Fit w) (h : checkB s k o a b = 0) :
    Calls Tryd.prog 5 #[.agg #[.string s, .int .i64 k, .bool up, .int .i64 o, .int .i64 a, .int .i64 b]] w fun e w' => e = .returned (.bool true) ∧ Below w.heap.size w w' := by
  have HX := Lib.hid (toxicChecks.start w s k up o a b)
  have HF := Lib.hid (show ∀ W, Below w.heap.size w W → Fit W from fun W hb => fit_on hf hb)
  obtain ⟨X, hX⟩ : ∃ X, textB s k up o a b = X := ⟨_, rfl⟩
  have hxs : X.size ≤ 1000000 := by rw [← hX]; exact text_size hs k up o a b
  have HT := Lib.hid (fun W h => text_i s (by omega) k up o a b W h)
  have HP := Lib.hid (fun W h => parse_i X hxs W h)
  have hp : parseB X = (⟨s, k, up, o, a, b⟩, 0) := by rw [← hX]; exact parse_text up h
  rw [hX] at HT
  rw [hp] at HP
  have HR := Lib.hid (fun W h => right_i s (by unfold maxLen; omega) k up o a b W h)
  rw [show (checkB s k o a b == 0) = true by simpa using h] at HR
  clear hf hX hp h
  go_enter Tryd.func5, Tryd.ntmps5
  go_wp2_with fail
  generalize w.alloc (.cells #[.string s, .int .i64 k, .bool up, .int .i64 o, .int .i64 a, .int .i64 b] 23) = w1 at *
  obtain ⟨g, hg⟩ : ∃ g, w.heap.size = g := ⟨_, rfl⟩
  have HX1 : Hid (Tx w w1 g s k up o a b) := Lib.hid (by rw [← hg]; exact HX.out)
  clear HX
  refine (HT.out _ (HF.out _ HX1.out.2.2)).mono ?_
  rintro e w2 ⟨rfl, hb⟩
  have HX2 := Lib.hid (HX1.out.on hb)
  clear hb HX1
  go_wp2_with fail
  refine (HP.out _ (HF.out _ HX2.out.2.2)).mono ?_
  rintro e w3 ⟨rfl, hb⟩
  have HX3 := Lib.hid (HX2.out.on hb)
  have HY4 := Lib.hid (tx_new HX3.out.2.2 s k up o a b)
  have HX4 := Lib.hid (HX3.out.on ((Below.refl w3.heap.size w3).alloc (Nat.le_refl _) (.cells #[.string s, .int .i64 k, .bool up, .int .i64 o, .int .i64 a, .int .i64 b] 23)))
  obtain ⟨y0, y1, y2, y3, y4, y5⟩ := HX4.out.cells
  have hlt := blk_lt HX3.out.2.1
  clear hb HX2 HX3
  go_wp2_with fail
  clear y0 y1 y2 y3 y4 y5 hlt
  generalize w3.alloc (.cells #[.string s, .int .i64 k, .bool up, .int .i64 o, .int .i64 a, .int .i64 b] 23) = w4 at *
  generalize w3.heap.size = g4 at *
  refine (HR.out _ (HF.out _ HX4.out.2.2)).mono ?_
  rintro e w5 ⟨rfl, hb⟩
  have HX5 := Lib.hid (HX4.out.on hb)
  have HY5 := Lib.hid (HY4.out.on hb)
  clear hb HX4 HY4
  go_wp2_with fail
  refine (alive_any _ (HF.out _ HX5.out.2.2)).mono ?_
  rintro e w6 ⟨rfl, hb⟩
  have HX6 := Lib.hid (HX5.out.on hb)
  have HY6 := Lib.hid (HY5.out.on hb)
  clear hb HX5 HY5
  obtain ⟨y0, y1, y2, y3, y4, y5⟩ := HX6.out.cells
  obtain ⟨z0, z1, z2, z3, z4, z5⟩ := HY6.out.cells
  go_wp2_with fail
  go_ret
  exact ⟨rfl, HX6.out.2.2⟩
theorem walk (s : ByteArray) (hs : s.size ≤ maxLen) (k : Int) (up : Bool) (o a b : Int) (w : World) (hf : Fit w) :
    Calls Tryd.prog 5 #[.agg #[.string s, .int .i64 k, .bool up, .int .i64 o, .int .i64 a, .int .i64 b]] w fun e w' => e = .returned (.bool true) ∧ Below w.heap.size w w' := by
  rcases Nat.lt_or_ge 1000 s.size with h | h
  · exact long s hs k up o a b w hf h
  · by_cases hc : checkB s k o a b = 0
    · exact good s h k up o a b w hf hc
    · exact bad s h k up o a b w hf hc
end Go.Proofs.YthlpdhhifjjofaaDoor.toxicBack

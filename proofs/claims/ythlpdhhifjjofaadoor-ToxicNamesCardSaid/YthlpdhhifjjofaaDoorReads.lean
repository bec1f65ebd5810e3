/-
  The walk of chicanelaw09.ToxicReads: it returns true, whatever text. Conditions: what of the world the program's functions read.
-/
import Derived.Test.YthlpdhhifjjofaaDoorV
namespace Go.Proofs.YthlpdhhifjjofaaDoor.toxicReads
open Go.RowKit

set_option maxRecDepth 100000 in
set_option maxHeartbeats 4000000 in
theorem long (s : ByteArray) (hs : s.size ≤ maxLen) (w : World) (hf : Fit w) (h : 1000 < s.size) :
    Calls Tryd.prog 4 #[.string s] w fun e w' => e = .returned (.bool true) ∧ Below w.heap.size w w' := by
  have HA := Lib.hid (alive_any w hf)
  unfold maxLen at hs
  have d1 : decide (1000 < s.size) = true := by simpa using h
  clear hf
  go_enter Tryd.func4, Tryd.ntmps4
  go_wp2_with fail
  refine HA.out.mono ?_
  rintro e w3 ⟨rfl, hb⟩
  have HE := Lib.hid hb
  clear hb
  go_wp2_with fail
  go_ret
  exact ⟨rfl, HE.out⟩
theorem name_size {s : ByteArray} (h : nameB s = true) : s.size ≤ 16 := by
  unfold nameB at h
  rw [Bool.and_eq_true, decide_eq_true_eq] at h
  exact h.2.2
set_option maxRecDepth 100000 in
set_option maxHeartbeats 8000000 in
theorem bad (s : ByteArray) (hs : s.size ≤ 1000) (w : World) (hf : Fit w) (S : ByteArray) (K : Int) (U : Bool) (O A B E : Int) (hp : parseB s = (⟨S, K, U, O, A, B⟩, E)) (h : E ≠ 0) :
    Calls Tryd.prog 4 #[.string s] w fun e w' => e = .returned (.bool true) ∧ Below w.heap.size w w' := by
  have HF := Lib.hid (show ∀ W, Below w.heap.size w W → Fit W from fun W hb => fit_on hf hb)
  have HP1 := Lib.hid (fun W h => parse_i s (by omega) W h)
  have HP2 := Lib.hid (fun W => rparsex_any s (by omega) W)
  unfold Prs toxV at HP2
  rw [hp] at HP1 HP2
  have b1 : (E != 0) = true := by simpa using h
  clear hf hp h
  go_enter Tryd.func4, Tryd.ntmps4
  go_wp2_with fail
  refine (HP1.out _ (HF.out _ (Below.refl _ _))).mono ?_
  rintro e w1 ⟨rfl, hb⟩
  have HX2 := Lib.hid (tx_new hb S K U O A B)
  clear hb HP1
  dsimp only
  go_wp2_with fail
  generalize w1.alloc (.cells #[.string S, .int .i64 K, .bool U, .int .i64 O, .int .i64 A, .int .i64 B] 23) = w2 at *
  generalize w1.heap.size = g at *
  refine (HP2.out _).mono ?_
  rintro e w3 ⟨rfl, hb⟩
  have HX3 := Lib.hid (HX2.out.on hb)
  have HY4 := Lib.hid (tx_new HX3.out.2.2 S K U O A B)
  have HX4 := Lib.hid (HX3.out.on ((Below.refl w3.heap.size w3).alloc (Nat.le_refl _) (.cells #[.string S, .int .i64 K, .bool U, .int .i64 O, .int .i64 A, .int .i64 B] 23)))
  clear hb HX2 HX3 HP2
  dsimp only
  go_wp2_with fail
  generalize w3.alloc (.cells #[.string S, .int .i64 K, .bool U, .int .i64 O, .int .i64 A, .int .i64 B] 23) = w4 at *
  generalize w3.heap.size = g4 at *
  refine (alive_any _ (HF.out _ HX4.out.2.2)).mono ?_
  rintro e w5 ⟨rfl, hb⟩
  have HX5 := Lib.hid (HX4.out.on hb)
  have HY5 := Lib.hid (HY4.out.on hb)
  clear hb HX4 HY4
  obtain ⟨y0, y1, y2, y3, y4, y5⟩ := HX5.out.cells
  obtain ⟨z0, z1, z2, z3, z4, z5⟩ := HY5.out.cells
  go_wp2_with fail
  go_ret
  exact ⟨rfl, HX5.out.2.2⟩
set_option maxRecDepth 100000 in
set_option maxHeartbeats 8000000 in
theorem good (s : ByteArray) (hs : s.size ≤ 1000) (w : World) (hf : Fit w) (S : ByteArray) (K : Int) (U : Bool) (O A B E : Int) (hp : parseB s = (⟨S, K, U, O, A, B⟩, E)) (h : E = 0) :
    Calls Tryd.prog 4 #[.string s] w fun e w' => e = .returned (.bool true) ∧ Below w.heap.size w w' := by
  have HF := Lib.hid (show ∀ W, Below w.heap.size w W → Fit W from fun W hb => fit_on hf hb)
  have HP1 := Lib.hid (fun W h => parse_i s (by omega) W h)
  have HP2 := Lib.hid (fun W => rparsex_any s (by omega) W)
  unfold Prs toxV at HP2
  rw [hp] at HP1 HP2
  have ht := text_parse (x := s) (by rw [hp]; exact h)
  rw [hp] at ht
  have hsz := name_size (check_iff.1 ht.2).1
  have HT := Lib.hid (fun W hf => text_i S (by dsimp only at hsz; omega) K U O A B W hf)
  rw [show textB S K U O A B = s from ht.1] at HT
  subst h
  have h : True := trivial
  clear ht hsz
  clear hf hp h
  go_enter Tryd.func4, Tryd.ntmps4
  go_wp2_with fail
  refine (HP1.out _ (HF.out _ (Below.refl _ _))).mono ?_
  rintro e w1 ⟨rfl, hb⟩
  have HX2 := Lib.hid (tx_new hb S K U O A B)
  clear hb HP1
  dsimp only
  go_wp2_with fail
  generalize w1.alloc (.cells #[.string S, .int .i64 K, .bool U, .int .i64 O, .int .i64 A, .int .i64 B] 23) = w2 at *
  generalize w1.heap.size = g at *
  refine (HP2.out _).mono ?_
  rintro e w3 ⟨rfl, hb⟩
  have HX3 := Lib.hid (HX2.out.on hb)
  have HY4 := Lib.hid (tx_new HX3.out.2.2 S K U O A B)
  have HX4 := Lib.hid (HX3.out.on ((Below.refl w3.heap.size w3).alloc (Nat.le_refl _) (.cells #[.string S, .int .i64 K, .bool U, .int .i64 O, .int .i64 A, .int .i64 B] 23)))
  clear hb HX2 HX3 HP2
  dsimp only
  go_wp2_with fail
  generalize w3.alloc (.cells #[.string S, .int .i64 K, .bool U, .int .i64 O, .int .i64 A, .int .i64 B] 23) = w4 at *
  generalize w3.heap.size = g4 at *
  refine (alive_any _ (HF.out _ HX4.out.2.2)).mono ?_
  rintro e w5 ⟨rfl, hb⟩
  have HX5 := Lib.hid (HX4.out.on hb)
  have HY5 := Lib.hid (HY4.out.on hb)
  clear hb HX4 HY4
  obtain ⟨y0, y1, y2, y3, y4, y5⟩ := HX5.out.cells
  obtain ⟨z0, z1, z2, z3, z4, z5⟩ := HY5.out.cells
  go_wp2_with fail
  refine (HT.out _ (HF.out _ HX5.out.2.2)).mono ?_
  rintro e w6 ⟨rfl, hb⟩
  have HX6 := Lib.hid (HX5.out.on hb)
  clear hb y0 y1 y2 y3 y4 y5 z0 z1 z2 z3 z4 z5
  go_wp2_with fail
  go_ret
  exact ⟨rfl, HX6.out.2.2⟩
theorem walk (s : ByteArray) (hs : s.size ≤ maxLen) (w : World) (hf : Fit w) :
    Calls Tryd.prog 4 #[.string s] w fun e w' => e = .returned (.bool true) ∧ Below w.heap.size w w' := by
  rcases Nat.lt_or_ge 1000 s.size with h | h
  · exact long s hs w hf h
  · by_cases hc : (parseB s).2 = 0
    · exact good s h w hf _ _ _ _ _ _ _ rfl hc
    · exact bad s h w hf _ _ _ _ _ _ _ rfl hc
end Go.Proofs.YthlpdhhifjjofaaDoor.toxicReads

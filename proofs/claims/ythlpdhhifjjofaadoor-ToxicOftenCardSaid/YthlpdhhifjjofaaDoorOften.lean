/-
  The walk of chicanelaw09.ToxicOften: it returns true, whatever toxic. Conditions: what of the world the program's functions read.
-/
import Derived.Test.YthlpdhhifjjofaaDoorReads
import Derived.Test.YthlpdhhifjjofaaDoorBack
import Derived.Deep.Cut
import Derived.Deep.CutRange
namespace Go.Proofs.YthlpdhhifjjofaaDoor.toxicOften
open Go.RowKit

theorem often_set {w w3 : World} {g gu : Nat} {s : ByteArray} {k : Int} {up : Bool} {o a b : Int} (hu : Hid (Tx w w3 gu s k up o a b)) (hx : Hid (Tx w w3 g s k up o a b)) (hne : g < gu) (o' : Int) (up' : Bool) :
    Hid (Tx w ((w3.setCell ⟨gu, 3, none⟩ (.int .i64 o')).setCell ⟨gu, 2, none⟩ (.bool up')).drew gu s k up' o' a b) ∧ Hid (Tx w ((w3.setCell ⟨gu, 3, none⟩ (.int .i64 o')).setCell ⟨gu, 2, none⟩ (.bool up')).drew g s k up o a b) := by
  have hb : Below w.heap.size w ((w3.setCell ⟨gu, 3, none⟩ (.int .i64 o')).setCell ⟨gu, 2, none⟩ (.bool up')) := (hu.out.2.2.setCell (p := ⟨gu, 3, none⟩) hu.out.1 _).setCell (p := ⟨gu, 2, none⟩) hu.out.1 _
  have h1 : Tx w ((w3.setCell ⟨gu, 3, none⟩ (.int .i64 o')).setCell ⟨gu, 2, none⟩ (.bool up')) gu s k up' o' a b := ⟨hu.out.1, by rw [set_heap (set_heap hu.out.2.1 _) _]; rfl, hb⟩
  have h2 : Tx w ((w3.setCell ⟨gu, 3, none⟩ (.int .i64 o')).setCell ⟨gu, 2, none⟩ (.bool up')) g s k up o a b := ⟨hx.out.1, by
    rw [Below.heap_setCell _ _ _ _ (Nat.ne_of_lt hne), Below.heap_setCell _ _ _ _ (Nat.ne_of_lt hne)]
    exact hx.out.2.1, hb⟩
  have hdr : Below ((w3.setCell ⟨gu, 3, none⟩ (.int .i64 o')).setCell ⟨gu, 2, none⟩ (.bool up')).heap.size ((w3.setCell ⟨gu, 3, none⟩ (.int .i64 o')).setCell ⟨gu, 2, none⟩ (.bool up')) ((w3.setCell ⟨gu, 3, none⟩ (.int .i64 o')).setCell ⟨gu, 2, none⟩ (.bool up')).drew := (Below.refl _ _).drew
  exact ⟨Lib.hid (h1.on hdr), Lib.hid (h2.on hdr)⟩
theorem other_set {w w5 : World} {g gu gv : Nat} {s : ByteArray} {k : Int} {up : Bool} {o a b : Int} {u' : Bool} {o' : Int} (hv : Hid (Tx w w5 gv s k up o a b)) (hx : Hid (Tx w w5 g s k up o a b)) (hu : Hid (Tx w w5 gu s k u' o' a b)) (h1 : g < gv) (h2 : gu < gv) (b' : Int) :
    Hid (Tx w (w5.setCell ⟨gv, 5, none⟩ (.int .i64 b')) gv s k up o a b') ∧ Hid (Tx w (w5.setCell ⟨gv, 5, none⟩ (.int .i64 b')) g s k up o a b) ∧ Hid (Tx w (w5.setCell ⟨gv, 5, none⟩ (.int .i64 b')) gu s k u' o' a b) := by
  have hb : Below w.heap.size w (w5.setCell ⟨gv, 5, none⟩ (.int .i64 b')) := hv.out.2.2.setCell (p := ⟨gv, 5, none⟩) hv.out.1 _
  exact ⟨Lib.hid ⟨hv.out.1, by rw [set_heap hv.out.2.1 _]; rfl, hb⟩, Lib.hid ⟨hx.out.1, by rw [Below.heap_setCell _ _ _ _ (Nat.ne_of_lt h1)]; exact hx.out.2.1, hb⟩, Lib.hid ⟨hu.out.1, by rw [Below.heap_setCell _ _ _ _ (Nat.ne_of_lt h2)]; exact hu.out.2.1, hb⟩⟩
set_option maxRecDepth 100000 in
set_option maxHeartbeats 4000000 in
theorem bad (s : ByteArray) (hs : s.size ≤ maxLen) (k : Int) (up : Bool) (o a b : Int) (o' b' : Int) (w : World) (hf : Fit w) (h : checkB s k o a b ≠ 0) :
    Calls Tryd.prog 7 #[.agg #[.string s, .int .i64 k, .bool up, .int .i64 o, .int .i64 a, .int .i64 b], .int .i64 o', .int .i64 b'] w fun e w' => e = .returned (.bool true) ∧ Below w.heap.size w w' := by
  have HX := Lib.hid (toxicChecks.start w s k up o a b)
  have HF := Lib.hid (show ∀ W, Below w.heap.size w W → Fit W from fun W hb => fit_on hf hb)
  have HR := Lib.hid (fun W h => right_i s hs k up o a b W h)
  have hr : (checkB s k o a b == 0) = false := by simpa using h
  rw [hr] at HR
  clear hf hr h hs
  go_enter Tryd.func7, Tryd.ntmps7
  go_wp2_with fail
  refine (HR.out _ (HF.out _ HX.out.2.2)).mono ?_
  rintro e w2 ⟨rfl, hb⟩
  have HX2 := Lib.hid (HX.out.on hb)
  clear hb HX
  go_wp2_with fail
  refine (alive_any _ (HF.out _ HX2.out.2.2)).mono ?_
  rintro e w3 ⟨rfl, hb⟩
  have HE := Lib.hid (HX2.out.on hb).2.2
  clear hb HX2
  go_wp2_with fail
  go_ret
  exact ⟨rfl, HE.out⟩
set_option maxRecDepth 100000 in
set_option maxHeartbeats 16000000 in
theorem lo2 (s : ByteArray) (hs : s.size ≤ 16) (k : Int) (up : Bool) (o a b o' b' : Int) (w : World) (hf : Fit w) (h : checkB s k o a b = 0) (h0 : ¬ 0 ≤ o') (hn : numsB k = 2) :
    Calls Tryd.prog 7 #[.agg #[.string s, .int .i64 k, .bool up, .int .i64 o, .int .i64 a, .int .i64 b], .int .i64 o', .int .i64 b'] w fun e w' => e = .returned (.bool true) ∧ Below w.heap.size w w' := by
  have HX := Lib.hid (toxicChecks.start w s k up o a b)
  have HF := Lib.hid (show ∀ W, Below w.heap.size w W → Fit W from fun W hb => fit_on hf hb)
  have HR := Lib.hid (fun W h => right_i s (by unfold maxLen; omega) k up o a b W h)
  have HU := Lib.hid (fun W h => right_i s (by unfold maxLen; omega) k (!up) o' a b W h)
  have HV := Lib.hid (fun W h => right_i s (by unfold maxLen; omega) k up o a b' W h)
  have HN := Lib.hid (fun W h => numbers_i k W h)
  have hr : (checkB s k o a b == 0) = true := by simpa using h
  have hu : (checkB s k o' a b == 0) = false := by rw [check_often h o', decide_eq_false_iff_not]; omega
  rw [hr] at HR
  rw [hu] at HU
  have d0 : decide (0 ≤ o') = false := by simpa using h0
  clear h0
  rw [hn] at HN
  clear hn HV
  clear hf h hr hu
  go_enter Tryd.func7, Tryd.ntmps7
  go_wp2_with fail
  generalize w.alloc (.cells #[.string s, .int .i64 k, .bool up, .int .i64 o, .int .i64 a, .int .i64 b] 23) = w1 at *
  obtain ⟨g, hg⟩ : ∃ g, w.heap.size = g := ⟨_, rfl⟩
  have HX1 : Hid (Tx w w1 g s k up o a b) := Lib.hid (by rw [← hg]; exact HX.out)
  clear HX
  refine (HR.out _ (HF.out _ HX1.out.2.2)).mono ?_
  rintro e w2 ⟨rfl, hb⟩
  have HX2 := Lib.hid (HX1.out.on hb)
  clear hb HX1
  have HU3 := Lib.hid (tx_new HX2.out.2.2 s k up o a b)
  have HX3 := Lib.hid (HX2.out.on ((Below.refl w2.heap.size w2).alloc (Nat.le_refl _) (.cells #[.string s, .int .i64 k, .bool up, .int .i64 o, .int .i64 a, .int .i64 b] 23)))
  have hgu := blk_lt HX2.out.2.1
  obtain ⟨y0, y1, y2, y3, y4, y5⟩ := HX2.out.cells
  clear HX2
  go_upto_region 4 with fail
  generalize w2.alloc (.cells #[.string s, .int .i64 k, .bool up, .int .i64 o, .int .i64 a, .int .i64 b] 23) = w3 at *
  generalize w2.heap.size = gu at *
  clear y0 y1 y2 y3 y4 y5
  obtain ⟨y0, y1, y2, y3, y4, y5⟩ := HX3.out.cells
  obtain ⟨z0, z1, z2, z3, z4, z5⟩ := HU3.out.cells
  have f2 := HU3.out.frozen 2
  have f3 := HU3.out.frozen 3
  obtain ⟨HU4, HX4⟩ := often_set HU3 HX3 hgu o' (!up)
  go_cut [] from 14 to 19 (fun wc => wc = ((w3.setCell ⟨gu, 3, none⟩ (.int .i64 o')).setCell ⟨gu, 2, none⟩ (.bool (!up))).drew)
  case first =>
    go_region
    all_goals (go_wp2_with fail; go_meet; exact rfl)
  case rest =>
  subst hcut
  generalize ((w3.setCell ⟨gu, 3, none⟩ (.int .i64 o')).setCell ⟨gu, 2, none⟩ (.bool (!up))).drew = w4 at *
  clear y0 y1 y2 y3 y4 y5 z0 z1 z2 z3 z4 z5 f2 f3 HU3 HX3
  obtain ⟨y0, y1, y2, y3, y4, y5⟩ := HX4.out.cells
  have hl4 := blk_lt HX4.out.2.1
  have hl5 := blk_lt HU4.out.2.1
  have HB4 := Lib.hid ((Below.refl w4.heap.size w4).alloc (Nat.le_refl _) (.cells #[.string s, .int .i64 k, .bool up, .int .i64 o, .int .i64 a, .int .i64 b] 23))
  have HV5 := Lib.hid (tx_new HX4.out.2.2 s k up o a b)
  have HX5 := Lib.hid (HX4.out.on HB4.out)
  have HU5 := Lib.hid (HU4.out.on HB4.out)
  clear HB4 HX4 HU4
  go_upto_region 6 with fail
  generalize w4.alloc (.cells #[.string s, .int .i64 k, .bool up, .int .i64 o, .int .i64 a, .int .i64 b] 23) = w5 at *
  generalize w4.heap.size = gv at *
  clear y0 y1 y2 y3 y4 y5
  obtain ⟨z0, z1, z2, z3, z4, z5⟩ := HV5.out.cells
  have f5 := HV5.out.frozen 5
  obtain ⟨HV6, HX6, HU6⟩ := other_set HV5 HX5 HU5 hl4 hl5 b'
  clear HV5 HX5 HU5
  go_wp2_with fail
  generalize w5.setCell ⟨gv, 5, none⟩ (.int .i64 b') = w6 at *
  clear z0 z1 z2 z3 z4 z5 f5 hl4 hl5 hgu
  refine (alive_any _ (HF.out _ HX6.out.2.2)).mono ?_
  rintro e w7 ⟨rfl, hb⟩
  have HX7 := Lib.hid (HX6.out.on hb)
  have HU7 := Lib.hid (HU6.out.on hb)
  have HV7 := Lib.hid (HV6.out.on hb)
  clear hb HX6 HU6 HV6
  obtain ⟨y0, y1, y2, y3, y4, y5⟩ := HU7.out.cells
  go_wp2_with fail
  refine (HU.out _ (HF.out _ HX7.out.2.2)).mono ?_
  rintro e w8 ⟨rfl, hb⟩
  have HX8 := Lib.hid (HX7.out.on hb)
  have HV8 := Lib.hid (HV7.out.on hb)
  clear hb HX7 HV7 y0 y1 y2 y3 y4 y5
  obtain ⟨y0, y1, y2, y3, y4, y5⟩ := HX8.out.cells
  go_wp2_with fail
  refine (HN.out _ (HF.out _ HX8.out.2.2)).mono ?_
  rintro e w9 ⟨rfl, hb⟩
  have HX9 := Lib.hid (HX8.out.on hb)
  have HV9 := Lib.hid (HV8.out.on hb)
  clear hb HX8 HV8 y0 y1 y2 y3 y4 y5
  obtain ⟨y0, y1, y2, y3, y4, y5⟩ := HV9.out.cells
  go_wp2_with fail
  go_ret
  exact ⟨rfl, HX9.out.2.2⟩
set_option maxRecDepth 100000 in
set_option maxHeartbeats 16000000 in
theorem lo1 (s : ByteArray) (hs : s.size ≤ 16) (k : Int) (up : Bool) (o a b o' b' : Int) (w : World) (hf : Fit w) (h : checkB s k o a b = 0) (h0 : ¬ 0 ≤ o') (hn : numsB k ≠ 2) :
    Calls Tryd.prog 7 #[.agg #[.string s, .int .i64 k, .bool up, .int .i64 o, .int .i64 a, .int .i64 b], .int .i64 o', .int .i64 b'] w fun e w' => e = .returned (.bool true) ∧ Below w.heap.size w w' := by
  have HX := Lib.hid (toxicChecks.start w s k up o a b)
  have HF := Lib.hid (show ∀ W, Below w.heap.size w W → Fit W from fun W hb => fit_on hf hb)
  have HR := Lib.hid (fun W h => right_i s (by unfold maxLen; omega) k up o a b W h)
  have HU := Lib.hid (fun W h => right_i s (by unfold maxLen; omega) k (!up) o' a b W h)
  have HV := Lib.hid (fun W h => right_i s (by unfold maxLen; omega) k up o a b' W h)
  have HN := Lib.hid (fun W h => numbers_i k W h)
  have hr : (checkB s k o a b == 0) = true := by simpa using h
  have hu : (checkB s k o' a b == 0) = false := by rw [check_often h o', decide_eq_false_iff_not]; omega
  rw [hr] at HR
  rw [hu] at HU
  have d0 : decide (0 ≤ o') = false := by simpa using h0
  clear h0
  have hv : (checkB s k o a b' == 0) = (b' == 0) := check_other h hn b'
  rw [hv] at HV
  have bn : (numsB k == 2) = false := by simpa using hn
  generalize numsB k = N at *
  clear hn hv
  clear hf h hr hu
  go_enter Tryd.func7, Tryd.ntmps7
  go_wp2_with fail
  generalize w.alloc (.cells #[.string s, .int .i64 k, .bool up, .int .i64 o, .int .i64 a, .int .i64 b] 23) = w1 at *
  obtain ⟨g, hg⟩ : ∃ g, w.heap.size = g := ⟨_, rfl⟩
  have HX1 : Hid (Tx w w1 g s k up o a b) := Lib.hid (by rw [← hg]; exact HX.out)
  clear HX
  refine (HR.out _ (HF.out _ HX1.out.2.2)).mono ?_
  rintro e w2 ⟨rfl, hb⟩
  have HX2 := Lib.hid (HX1.out.on hb)
  clear hb HX1
  have HU3 := Lib.hid (tx_new HX2.out.2.2 s k up o a b)
  have HX3 := Lib.hid (HX2.out.on ((Below.refl w2.heap.size w2).alloc (Nat.le_refl _) (.cells #[.string s, .int .i64 k, .bool up, .int .i64 o, .int .i64 a, .int .i64 b] 23)))
  have hgu := blk_lt HX2.out.2.1
  obtain ⟨y0, y1, y2, y3, y4, y5⟩ := HX2.out.cells
  clear HX2
  go_upto_region 4 with fail
  generalize w2.alloc (.cells #[.string s, .int .i64 k, .bool up, .int .i64 o, .int .i64 a, .int .i64 b] 23) = w3 at *
  generalize w2.heap.size = gu at *
  clear y0 y1 y2 y3 y4 y5
  obtain ⟨y0, y1, y2, y3, y4, y5⟩ := HX3.out.cells
  obtain ⟨z0, z1, z2, z3, z4, z5⟩ := HU3.out.cells
  have f2 := HU3.out.frozen 2
  have f3 := HU3.out.frozen 3
  obtain ⟨HU4, HX4⟩ := often_set HU3 HX3 hgu o' (!up)
  go_cut [] from 14 to 19 (fun wc => wc = ((w3.setCell ⟨gu, 3, none⟩ (.int .i64 o')).setCell ⟨gu, 2, none⟩ (.bool (!up))).drew)
  case first =>
    go_region
    all_goals (go_wp2_with fail; go_meet; exact rfl)
  case rest =>
  subst hcut
  generalize ((w3.setCell ⟨gu, 3, none⟩ (.int .i64 o')).setCell ⟨gu, 2, none⟩ (.bool (!up))).drew = w4 at *
  clear y0 y1 y2 y3 y4 y5 z0 z1 z2 z3 z4 z5 f2 f3 HU3 HX3
  obtain ⟨y0, y1, y2, y3, y4, y5⟩ := HX4.out.cells
  have hl4 := blk_lt HX4.out.2.1
  have hl5 := blk_lt HU4.out.2.1
  have HB4 := Lib.hid ((Below.refl w4.heap.size w4).alloc (Nat.le_refl _) (.cells #[.string s, .int .i64 k, .bool up, .int .i64 o, .int .i64 a, .int .i64 b] 23))
  have HV5 := Lib.hid (tx_new HX4.out.2.2 s k up o a b)
  have HX5 := Lib.hid (HX4.out.on HB4.out)
  have HU5 := Lib.hid (HU4.out.on HB4.out)
  clear HB4 HX4 HU4
  go_upto_region 6 with fail
  generalize w4.alloc (.cells #[.string s, .int .i64 k, .bool up, .int .i64 o, .int .i64 a, .int .i64 b] 23) = w5 at *
  generalize w4.heap.size = gv at *
  clear y0 y1 y2 y3 y4 y5
  obtain ⟨z0, z1, z2, z3, z4, z5⟩ := HV5.out.cells
  have f5 := HV5.out.frozen 5
  obtain ⟨HV6, HX6, HU6⟩ := other_set HV5 HX5 HU5 hl4 hl5 b'
  clear HV5 HX5 HU5
  go_wp2_with fail
  generalize w5.setCell ⟨gv, 5, none⟩ (.int .i64 b') = w6 at *
  clear z0 z1 z2 z3 z4 z5 f5 hl4 hl5 hgu
  refine (alive_any _ (HF.out _ HX6.out.2.2)).mono ?_
  rintro e w7 ⟨rfl, hb⟩
  have HX7 := Lib.hid (HX6.out.on hb)
  have HU7 := Lib.hid (HU6.out.on hb)
  have HV7 := Lib.hid (HV6.out.on hb)
  clear hb HX6 HU6 HV6
  obtain ⟨y0, y1, y2, y3, y4, y5⟩ := HU7.out.cells
  go_wp2_with fail
  refine (HU.out _ (HF.out _ HX7.out.2.2)).mono ?_
  rintro e w8 ⟨rfl, hb⟩
  have HX8 := Lib.hid (HX7.out.on hb)
  have HV8 := Lib.hid (HV7.out.on hb)
  clear hb HX7 HV7 y0 y1 y2 y3 y4 y5
  obtain ⟨y0, y1, y2, y3, y4, y5⟩ := HX8.out.cells
  go_wp2_with fail
  refine (HN.out _ (HF.out _ HX8.out.2.2)).mono ?_
  rintro e w9 ⟨rfl, hb⟩
  have HX9 := Lib.hid (HX8.out.on hb)
  have HV9 := Lib.hid (HV8.out.on hb)
  clear hb HX8 HV8 y0 y1 y2 y3 y4 y5
  obtain ⟨y0, y1, y2, y3, y4, y5⟩ := HV9.out.cells
  go_wp2_with fail
  refine (HV.out _ (HF.out _ HX9.out.2.2)).mono ?_
  rintro e w10 ⟨rfl, hb⟩
  have HE := Lib.hid (HX9.out.on hb).2.2
  clear hb HX9 HV9 y0 y1 y2 y3 y4 y5
  go_wp2_with fail
  go_ret
  exact ⟨rfl, HE.out⟩
set_option maxRecDepth 100000 in
set_option maxHeartbeats 16000000 in
theorem hi2 (s : ByteArray) (hs : s.size ≤ 16) (k : Int) (up : Bool) (o a b o' b' : Int) (w : World) (hf : Fit w) (h : checkB s k o a b = 0) (h0 : 0 ≤ o') (hn : numsB k = 2) :
    Calls Tryd.prog 7 #[.agg #[.string s, .int .i64 k, .bool up, .int .i64 o, .int .i64 a, .int .i64 b], .int .i64 o', .int .i64 b'] w fun e w' => e = .returned (.bool true) ∧ Below w.heap.size w w' := by
  have HX := Lib.hid (toxicChecks.start w s k up o a b)
  have HF := Lib.hid (show ∀ W, Below w.heap.size w W → Fit W from fun W hb => fit_on hf hb)
  have HR := Lib.hid (fun W h => right_i s (by unfold maxLen; omega) k up o a b W h)
  have HU := Lib.hid (fun W h => right_i s (by unfold maxLen; omega) k (!up) o' a b W h)
  have HV := Lib.hid (fun W h => right_i s (by unfold maxLen; omega) k up o a b' W h)
  have HN := Lib.hid (fun W h => numbers_i k W h)
  have hr : (checkB s k o a b == 0) = true := by simpa using h
  have hu : (checkB s k o' a b == 0) = decide (o' ≤ 100) := by rw [check_often h o', Bool.eq_iff_iff, decide_eq_true_eq, decide_eq_true_eq]; omega
  rw [hr] at HR
  rw [hu] at HU
  have d0 : decide (0 ≤ o') = true := by simpa using h0
  clear h0
  rw [hn] at HN
  clear hn HV
  clear hf h hr hu
  go_enter Tryd.func7, Tryd.ntmps7
  go_wp2_with fail
  generalize w.alloc (.cells #[.string s, .int .i64 k, .bool up, .int .i64 o, .int .i64 a, .int .i64 b] 23) = w1 at *
  obtain ⟨g, hg⟩ : ∃ g, w.heap.size = g := ⟨_, rfl⟩
  have HX1 : Hid (Tx w w1 g s k up o a b) := Lib.hid (by rw [← hg]; exact HX.out)
  clear HX
  refine (HR.out _ (HF.out _ HX1.out.2.2)).mono ?_
  rintro e w2 ⟨rfl, hb⟩
  have HX2 := Lib.hid (HX1.out.on hb)
  clear hb HX1
  have HU3 := Lib.hid (tx_new HX2.out.2.2 s k up o a b)
  have HX3 := Lib.hid (HX2.out.on ((Below.refl w2.heap.size w2).alloc (Nat.le_refl _) (.cells #[.string s, .int .i64 k, .bool up, .int .i64 o, .int .i64 a, .int .i64 b] 23)))
  have hgu := blk_lt HX2.out.2.1
  obtain ⟨y0, y1, y2, y3, y4, y5⟩ := HX2.out.cells
  clear HX2
  go_upto_region 4 with fail
  generalize w2.alloc (.cells #[.string s, .int .i64 k, .bool up, .int .i64 o, .int .i64 a, .int .i64 b] 23) = w3 at *
  generalize w2.heap.size = gu at *
  clear y0 y1 y2 y3 y4 y5
  obtain ⟨y0, y1, y2, y3, y4, y5⟩ := HX3.out.cells
  obtain ⟨z0, z1, z2, z3, z4, z5⟩ := HU3.out.cells
  have f2 := HU3.out.frozen 2
  have f3 := HU3.out.frozen 3
  obtain ⟨HU4, HX4⟩ := often_set HU3 HX3 hgu o' (!up)
  go_cut [] from 14 to 19 (fun wc => wc = ((w3.setCell ⟨gu, 3, none⟩ (.int .i64 o')).setCell ⟨gu, 2, none⟩ (.bool (!up))).drew)
  case first =>
    go_region
    all_goals (go_wp2_with fail; go_meet; exact rfl)
  case rest =>
  subst hcut
  generalize ((w3.setCell ⟨gu, 3, none⟩ (.int .i64 o')).setCell ⟨gu, 2, none⟩ (.bool (!up))).drew = w4 at *
  clear y0 y1 y2 y3 y4 y5 z0 z1 z2 z3 z4 z5 f2 f3 HU3 HX3
  obtain ⟨y0, y1, y2, y3, y4, y5⟩ := HX4.out.cells
  have hl4 := blk_lt HX4.out.2.1
  have hl5 := blk_lt HU4.out.2.1
  have HB4 := Lib.hid ((Below.refl w4.heap.size w4).alloc (Nat.le_refl _) (.cells #[.string s, .int .i64 k, .bool up, .int .i64 o, .int .i64 a, .int .i64 b] 23))
  have HV5 := Lib.hid (tx_new HX4.out.2.2 s k up o a b)
  have HX5 := Lib.hid (HX4.out.on HB4.out)
  have HU5 := Lib.hid (HU4.out.on HB4.out)
  clear HB4 HX4 HU4
  go_upto_region 6 with fail
  generalize w4.alloc (.cells #[.string s, .int .i64 k, .bool up, .int .i64 o, .int .i64 a, .int .i64 b] 23) = w5 at *
  generalize w4.heap.size = gv at *
  clear y0 y1 y2 y3 y4 y5
  obtain ⟨z0, z1, z2, z3, z4, z5⟩ := HV5.out.cells
  have f5 := HV5.out.frozen 5
  obtain ⟨HV6, HX6, HU6⟩ := other_set HV5 HX5 HU5 hl4 hl5 b'
  clear HV5 HX5 HU5
  go_wp2_with fail
  generalize w5.setCell ⟨gv, 5, none⟩ (.int .i64 b') = w6 at *
  clear z0 z1 z2 z3 z4 z5 f5 hl4 hl5 hgu
  refine (alive_any _ (HF.out _ HX6.out.2.2)).mono ?_
  rintro e w7 ⟨rfl, hb⟩
  have HX7 := Lib.hid (HX6.out.on hb)
  have HU7 := Lib.hid (HU6.out.on hb)
  have HV7 := Lib.hid (HV6.out.on hb)
  clear hb HX6 HU6 HV6
  obtain ⟨y0, y1, y2, y3, y4, y5⟩ := HU7.out.cells
  go_wp2_with fail
  refine (HU.out _ (HF.out _ HX7.out.2.2)).mono ?_
  rintro e w8 ⟨rfl, hb⟩
  have HX8 := Lib.hid (HX7.out.on hb)
  have HV8 := Lib.hid (HV7.out.on hb)
  clear hb HX7 HV7 y0 y1 y2 y3 y4 y5
  obtain ⟨y0, y1, y2, y3, y4, y5⟩ := HX8.out.cells
  go_wp2_with fail
  refine (HN.out _ (HF.out _ HX8.out.2.2)).mono ?_
  rintro e w9 ⟨rfl, hb⟩
  have HX9 := Lib.hid (HX8.out.on hb)
  have HV9 := Lib.hid (HV8.out.on hb)
  clear hb HX8 HV8 y0 y1 y2 y3 y4 y5
  obtain ⟨y0, y1, y2, y3, y4, y5⟩ := HV9.out.cells
  go_wp2_with fail
  go_ret
  exact ⟨rfl, HX9.out.2.2⟩
set_option maxRecDepth 100000 in
set_option maxHeartbeats 16000000 in
theorem hi1 (s : ByteArray) (hs : s.size ≤ 16) (k : Int) (up : Bool) (o a b o' b' : Int) (w : World) (hf : Fit w) (h : checkB s k o a b = 0) (h0 : 0 ≤ o') (hn : numsB k ≠ 2) :
    Calls Tryd.prog 7 #[.agg #[.string s, .int .i64 k, .bool up, .int .i64 o, .int .i64 a, .int .i64 b], .int .i64 o', .int .i64 b'] w fun e w' => e = .returned (.bool true) ∧ Below w.heap.size w w' := by
  have HX := Lib.hid (toxicChecks.start w s k up o a b)
  have HF := Lib.hid (show ∀ W, Below w.heap.size w W → Fit W from fun W hb => fit_on hf hb)
  have HR := Lib.hid (fun W h => right_i s (by unfold maxLen; omega) k up o a b W h)
  have HU := Lib.hid (fun W h => right_i s (by unfold maxLen; omega) k (!up) o' a b W h)
  have HV := Lib.hid (fun W h => right_i s (by unfold maxLen; omega) k up o a b' W h)
  have HN := Lib.hid (fun W h => numbers_i k W h)
  have hr : (checkB s k o a b == 0) = true := by simpa using h
  have hu : (checkB s k o' a b == 0) = decide (o' ≤ 100) := by rw [check_often h o', Bool.eq_iff_iff, decide_eq_true_eq, decide_eq_true_eq]; omega
  rw [hr] at HR
  rw [hu] at HU
  have d0 : decide (0 ≤ o') = true := by simpa using h0
  clear h0
  have hv : (checkB s k o a b' == 0) = (b' == 0) := check_other h hn b'
  rw [hv] at HV
  have bn : (numsB k == 2) = false := by simpa using hn
  generalize numsB k = N at *
  clear hn hv
  clear hf h hr hu
  go_enter Tryd.func7, Tryd.ntmps7
  go_wp2_with fail
  generalize w.alloc (.cells #[.string s, .int .i64 k, .bool up, .int .i64 o, .int .i64 a, .int .i64 b] 23) = w1 at *
  obtain ⟨g, hg⟩ : ∃ g, w.heap.size = g := ⟨_, rfl⟩
  have HX1 : Hid (Tx w w1 g s k up o a b) := Lib.hid (by rw [← hg]; exact HX.out)
  clear HX
  refine (HR.out _ (HF.out _ HX1.out.2.2)).mono ?_
  rintro e w2 ⟨rfl, hb⟩
  have HX2 := Lib.hid (HX1.out.on hb)
  clear hb HX1
  have HU3 := Lib.hid (tx_new HX2.out.2.2 s k up o a b)
  have HX3 := Lib.hid (HX2.out.on ((Below.refl w2.heap.size w2).alloc (Nat.le_refl _) (.cells #[.string s, .int .i64 k, .bool up, .int .i64 o, .int .i64 a, .int .i64 b] 23)))
  have hgu := blk_lt HX2.out.2.1
  obtain ⟨y0, y1, y2, y3, y4, y5⟩ := HX2.out.cells
  clear HX2
  go_upto_region 4 with fail
  generalize w2.alloc (.cells #[.string s, .int .i64 k, .bool up, .int .i64 o, .int .i64 a, .int .i64 b] 23) = w3 at *
  generalize w2.heap.size = gu at *
  clear y0 y1 y2 y3 y4 y5
  obtain ⟨y0, y1, y2, y3, y4, y5⟩ := HX3.out.cells
  obtain ⟨z0, z1, z2, z3, z4, z5⟩ := HU3.out.cells
  have f2 := HU3.out.frozen 2
  have f3 := HU3.out.frozen 3
  obtain ⟨HU4, HX4⟩ := often_set HU3 HX3 hgu o' (!up)
  go_cut [] from 14 to 19 (fun wc => wc = ((w3.setCell ⟨gu, 3, none⟩ (.int .i64 o')).setCell ⟨gu, 2, none⟩ (.bool (!up))).drew)
  case first =>
    go_region
    all_goals (go_wp2_with fail; go_meet; exact rfl)
  case rest =>
  subst hcut
  generalize ((w3.setCell ⟨gu, 3, none⟩ (.int .i64 o')).setCell ⟨gu, 2, none⟩ (.bool (!up))).drew = w4 at *
  clear y0 y1 y2 y3 y4 y5 z0 z1 z2 z3 z4 z5 f2 f3 HU3 HX3
  obtain ⟨y0, y1, y2, y3, y4, y5⟩ := HX4.out.cells
  have hl4 := blk_lt HX4.out.2.1
  have hl5 := blk_lt HU4.out.2.1
  have HB4 := Lib.hid ((Below.refl w4.heap.size w4).alloc (Nat.le_refl _) (.cells #[.string s, .int .i64 k, .bool up, .int .i64 o, .int .i64 a, .int .i64 b] 23))
  have HV5 := Lib.hid (tx_new HX4.out.2.2 s k up o a b)
  have HX5 := Lib.hid (HX4.out.on HB4.out)
  have HU5 := Lib.hid (HU4.out.on HB4.out)
  clear HB4 HX4 HU4
  go_upto_region 6 with fail
  generalize w4.alloc (.cells #[.string s, .int .i64 k, .bool up, .int .i64 o, .int .i64 a, .int .i64 b] 23) = w5 at *
  generalize w4.heap.size = gv at *
  clear y0 y1 y2 y3 y4 y5
  obtain ⟨z0, z1, z2, z3, z4, z5⟩ := HV5.out.cells
  have f5 := HV5.out.frozen 5
  obtain ⟨HV6, HX6, HU6⟩ := other_set HV5 HX5 HU5 hl4 hl5 b'
  clear HV5 HX5 HU5
  go_wp2_with fail
  generalize w5.setCell ⟨gv, 5, none⟩ (.int .i64 b') = w6 at *
  clear z0 z1 z2 z3 z4 z5 f5 hl4 hl5 hgu
  refine (alive_any _ (HF.out _ HX6.out.2.2)).mono ?_
  rintro e w7 ⟨rfl, hb⟩
  have HX7 := Lib.hid (HX6.out.on hb)
  have HU7 := Lib.hid (HU6.out.on hb)
  have HV7 := Lib.hid (HV6.out.on hb)
  clear hb HX6 HU6 HV6
  obtain ⟨y0, y1, y2, y3, y4, y5⟩ := HU7.out.cells
  go_wp2_with fail
  refine (HU.out _ (HF.out _ HX7.out.2.2)).mono ?_
  rintro e w8 ⟨rfl, hb⟩
  have HX8 := Lib.hid (HX7.out.on hb)
  have HV8 := Lib.hid (HV7.out.on hb)
  clear hb HX7 HV7 y0 y1 y2 y3 y4 y5
  obtain ⟨y0, y1, y2, y3, y4, y5⟩ := HX8.out.cells
  go_wp2_with fail
  refine (HN.out _ (HF.out _ HX8.out.2.2)).mono ?_
  rintro e w9 ⟨rfl, hb⟩
  have HX9 := Lib.hid (HX8.out.on hb)
  have HV9 := Lib.hid (HV8.out.on hb)
  clear hb HX8 HV8 y0 y1 y2 y3 y4 y5
  obtain ⟨y0, y1, y2, y3, y4, y5⟩ := HV9.out.cells
  go_wp2_with fail
  refine (HV.out _ (HF.out _ HX9.out.2.2)).mono ?_
  rintro e w10 ⟨rfl, hb⟩
  have HE := Lib.hid (HX9.out.on hb).2.2
  clear hb HX9 HV9 y0 y1 y2 y3 y4 y5
  go_wp2_with fail
  go_ret
  exact ⟨rfl, HE.out⟩
theorem walk (s : ByteArray) (hs : s.size ≤ maxLen) (k : Int) (up : Bool) (o a b : Int) (o' b' : Int) (w : World) (hf : Fit w) :
    Calls Tryd.prog 7 #[.agg #[.string s, .int .i64 k, .bool up, .int .i64 o, .int .i64 a, .int .i64 b], .int .i64 o', .int .i64 b'] w fun e w' => e = .returned (.bool true) ∧ Below w.heap.size w w' := by
  by_cases h : checkB s k o a b = 0
  · have h16 := toxicReads.name_size (check_iff.1 h).1
    by_cases h0 : 0 ≤ o'
    · by_cases hn : numsB k = 2
      · exact hi2 s h16 k up o a b o' b' w hf h h0 hn
      · exact hi1 s h16 k up o a b o' b' w hf h h0 hn
    · by_cases hn : numsB k = 2
      · exact lo2 s h16 k up o a b o' b' w hf h h0 hn
      · exact lo1 s h16 k up o a b o' b' w hf h h0 hn
  · exact bad s hs k up o a b o' b' w hf h
end Go.Proofs.YthlpdhhifjjofaaDoor.toxicOften

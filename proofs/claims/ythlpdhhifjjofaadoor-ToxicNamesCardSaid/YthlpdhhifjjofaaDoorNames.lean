/-
  The walk of chicanelaw09.ToxicNames: it returns true, whatever text and sign. Conditions: what of the world the program's functions read.
-/
import Derived.Test.YthlpdhhifjjofaaDoorReads
import Derived.Laws.BytesArg
import Derived.Deep.Cut
import Derived.Deep.CutRange
namespace Go.Proofs.YthlpdhhifjjofaaDoor.toxicNames
open Go.RowKit

theorem conv_one (w : World) (c : Int) : (convert 38 9 (.slice (some ⟨w.heap.size, 0, none⟩) 1 1)).run Tryd.prog (w.alloc (.cells #[.int .u8 c] 5)) = .ok (.string (strOfNums [c])) (w.alloc (.cells #[.int .u8 c] 5)) :=
  run_convert_bytes_arg _ 38 5 Tryd.underlying38 Tryd.underlying5 w.heap.size 0 1 1 [c] rfl (fun i hi => by
    obtain rfl : i = 0 := by omega
    exact cell_of_row _ _ 0 _ _ _ (heap_alloc_new w (.cells #[.int .u8 c] 5))) 9 Tryd.underlying9
theorem one_more {s : ByteArray} (h : nameB s = true) {c : Int} (hc : 0 ≤ c ∧ c < 256) : nameB (s ++ strOfNums [c]) = (signB c && decide (s.size < 16)) := by
  have e : strOfNums [c] = ⟨#[UInt8.ofNat c.toNat]⟩ := rfl
  rw [e, name_more h]
  have : ((UInt8.ofNat c.toNat).toNat : Int) = c := by
    simp
    omega
  rw [this]
theorem sign_is {c : Int} {g : Bool} (h : signB c = g) : ((97 ≤ c ∧ c ≤ 122) ∨ (48 ≤ c ∧ c ≤ 57) ∨ c = 95 ∨ c = 45) ↔ g = true := by
  rw [← h]
  unfold signB
  simp [or_assoc]
set_option maxRecDepth 100000 in
set_option maxHeartbeats 4000000 in
theorem bad (s : ByteArray) (hs : s.size ≤ maxLen) (c : Int) (w : World) (hf : Fit w) (h : nameB s = false) :
    Calls Tryd.prog 8 #[.string s, .int .u8 c] w fun e w' => e = .returned (.bool true) ∧ Below w.heap.size w w' := by
  have HF := Lib.hid (show ∀ W, Below w.heap.size w W → Fit W from fun W hb => fit_on hf hb)
  have HN1 := Lib.hid (fun W h => name_i s hs W h)
  have HN2 := Lib.hid (fun W => rname_any s hs W)
  rw [h] at HN1 HN2
  clear hf h hs
  go_enter Tryd.func8, Tryd.ntmps8
  go_wp2_with fail
  refine (HN1.out _ (HF.out _ (Below.refl _ _))).mono ?_
  rintro e w1 ⟨rfl, hb⟩
  have HB1 := Lib.hid hb
  clear hb
  go_wp2_with fail
  refine (alive_any _ (HF.out _ HB1.out)).mono ?_
  rintro e w2 ⟨rfl, hb⟩
  have HB2 := Lib.hid (seqB HB1.out hb)
  clear hb
  go_wp2_with fail
  refine (HN2.out _).mono ?_
  rintro e w' ⟨rfl, rfl⟩
  go_wp2_with fail
  go_ret
  exact ⟨rfl, HB2.out⟩
set_option maxRecDepth 100000 in
set_option maxHeartbeats 8000000 in
theorem good1 (s : ByteArray) (c : Int) (hc : 0 ≤ c ∧ c < 256) (w : World) (hf : Fit w) (h : nameB s = true) (hg : signB c = true) :
    Calls Tryd.prog 8 #[.string s, .int .u8 c] w fun e w' => e = .returned (.bool true) ∧ Below w.heap.size w w' := by
  have HF := Lib.hid (show ∀ W, Below w.heap.size w W → Fit W from fun W hb => fit_on hf hb)
  have h16 := toxicReads.name_size h
  have HN1 := Lib.hid (fun W h => name_i s (by unfold maxLen; omega) W h)
  have HN2 := Lib.hid (fun W => rname_any s (by unfold maxLen; omega) W)
  rw [h] at HN1 HN2
  have hone := one_more h hc
  have h1 : (strOfNums [c]).size = 1 := rfl
  have cv := fun W => conv_one W c
  generalize strOfNums [c] = Y at *
  obtain ⟨X, hX⟩ : ∃ X, s ++ Y = X := ⟨_, rfl⟩
  have hxs : X.size ≤ maxLen := by rw [← hX, cat_size]; unfold maxLen; omega
  have r1 := fun W => cat_run hX (by omega) (by omega) W
  have HN3 := Lib.hid (fun W h => name_i X hxs W h)
  rw [← hX, hone, hg, hX] at HN3
  have HN4 := Lib.hid (fun W h => name_i ⟨#[]⟩ (by decide) W h)
  rw [name_nil] at HN4
  have HG := Lib.hid (sign_is hg)
  clear hf h hone hX hxs h1
  go_enter Tryd.func8, Tryd.ntmps8
  go_wp2_with fail
  refine (HN1.out _ (HF.out _ (Below.refl _ _))).mono ?_
  rintro e w1 ⟨rfl, hb⟩
  have HB1 := Lib.hid hb
  clear hb
  go_upto_region 3 with fail
  go_cut [1, 5] from 16 to 37 (fun u v wc => u = .int .u8 c ∧ v = .bool true ∧ wc = w1)
  case first =>
    clear cv r1
    go_wp2_with fail
    all_goals go_meet
    all_goals first
      | exact ⟨rfl, rfl, rfl⟩
      | (refine ⟨?_, ?_, rfl⟩ <;> first | rfl | (rename_i hh; rw [hh]) | (have hq := HG.out; simp at *; omega))
  case rest =>
  obtain ⟨rfl, rfl, rfl⟩ := hcut
  have HB2 := Lib.hid (seqB HB1.out ((Below.refl wc.heap.size wc).alloc (Nat.le_refl _) (.cells #[.int .u8 c] 5)))
  clear hg hc HG
  have cv1 := cv wc
  clear cv HB1
  go_wp2_with fail
  generalize wc.alloc (.cells #[.int .u8 c] 5) = w2 at *
  refine (alive_any _ (HF.out _ HB2.out)).mono ?_
  rintro e w3 ⟨rfl, hb⟩
  have HB3 := Lib.hid (seqB HB2.out hb)
  clear hb cv1 r1
  go_wp2_with fail
  refine (HN2.out _).mono ?_
  rintro e w' ⟨rfl, rfl⟩
  go_wp2_with fail
  refine (HN3.out _ (HF.out _ HB3.out)).mono ?_
  rintro e w4 ⟨rfl, hb⟩
  have HB4 := Lib.hid (seqB HB3.out hb)
  clear hb
  go_wp2_with fail
  refine (HN4.out _ (HF.out _ HB4.out)).mono ?_
  rintro e w5 ⟨rfl, hb⟩
  have HB5 := Lib.hid (seqB HB4.out hb)
  clear hb
  go_wp2_with fail
  go_ret
  exact ⟨rfl, HB5.out⟩
set_option maxRecDepth 100000 in
set_option maxHeartbeats 8000000 in
theorem good0 (s : ByteArray) (c : Int) (hc : 0 ≤ c ∧ c < 256) (w : World) (hf : Fit w) (h : nameB s = true) (hg : signB c = false) :
    Calls Tryd.prog 8 #[.string s, .int .u8 c] w fun e w' => e = .returned (.bool true) ∧ Below w.heap.size w w' := by
  have HF := Lib.hid (show ∀ W, Below w.heap.size w W → Fit W from fun W hb => fit_on hf hb)
  have h16 := toxicReads.name_size h
  have HN1 := Lib.hid (fun W h => name_i s (by unfold maxLen; omega) W h)
  have HN2 := Lib.hid (fun W => rname_any s (by unfold maxLen; omega) W)
  rw [h] at HN1 HN2
  have hone := one_more h hc
  have h1 : (strOfNums [c]).size = 1 := rfl
  have cv := fun W => conv_one W c
  generalize strOfNums [c] = Y at *
  obtain ⟨X, hX⟩ : ∃ X, s ++ Y = X := ⟨_, rfl⟩
  have hxs : X.size ≤ maxLen := by rw [← hX, cat_size]; unfold maxLen; omega
  have r1 := fun W => cat_run hX (by omega) (by omega) W
  have HN3 := Lib.hid (fun W h => name_i X hxs W h)
  rw [← hX, hone, hg, hX] at HN3
  have HN4 := Lib.hid (fun W h => name_i ⟨#[]⟩ (by decide) W h)
  rw [name_nil] at HN4
  have HG := Lib.hid (sign_is hg)
  clear hf h hone hX hxs h1
  go_enter Tryd.func8, Tryd.ntmps8
  go_wp2_with fail
  refine (HN1.out _ (HF.out _ (Below.refl _ _))).mono ?_
  rintro e w1 ⟨rfl, hb⟩
  have HB1 := Lib.hid hb
  clear hb
  go_upto_region 3 with fail
  go_cut [1, 5] from 16 to 37 (fun u v wc => u = .int .u8 c ∧ v = .bool false ∧ wc = w1)
  case first =>
    clear cv r1
    go_wp2_with fail
    all_goals go_meet
    all_goals first
      | exact ⟨rfl, rfl, rfl⟩
      | (refine ⟨?_, ?_, rfl⟩ <;> first | rfl | (rename_i hh; rw [hh]) | (have hq := HG.out; simp at *; omega))
  case rest =>
  obtain ⟨rfl, rfl, rfl⟩ := hcut
  have HB2 := Lib.hid (seqB HB1.out ((Below.refl wc.heap.size wc).alloc (Nat.le_refl _) (.cells #[.int .u8 c] 5)))
  clear hg hc HG
  have cv1 := cv wc
  clear cv HB1
  go_wp2_with fail
  generalize wc.alloc (.cells #[.int .u8 c] 5) = w2 at *
  refine (alive_any _ (HF.out _ HB2.out)).mono ?_
  rintro e w3 ⟨rfl, hb⟩
  have HB3 := Lib.hid (seqB HB2.out hb)
  clear hb cv1 r1
  go_wp2_with fail
  refine (HN2.out _).mono ?_
  rintro e w' ⟨rfl, rfl⟩
  go_wp2_with fail
  refine (HN3.out _ (HF.out _ HB3.out)).mono ?_
  rintro e w4 ⟨rfl, hb⟩
  have HB4 := Lib.hid (seqB HB3.out hb)
  clear hb
  go_wp2_with fail
  refine (HN4.out _ (HF.out _ HB4.out)).mono ?_
  rintro e w5 ⟨rfl, hb⟩
  have HB5 := Lib.hid (seqB HB4.out hb)
  clear hb
  go_wp2_with fail
  go_ret
  exact ⟨rfl, HB5.out⟩
theorem walk (s : ByteArray) (hs : s.size ≤ maxLen) (c : Int) (hc : 0 ≤ c ∧ c < 256) (w : World) (hf : Fit w) :
    Calls Tryd.prog 8 #[.string s, .int .u8 c] w fun e w' => e = .returned (.bool true) ∧ Below w.heap.size w w' := by
  cases h : nameB s with
  | false => exact bad s hs c w hf h
  | true => cases hg : signB c with
    | false => exact good0 s c hc w hf h hg
    | true => exact good1 s c hc w hf h hg
end Go.Proofs.YthlpdhhifjjofaaDoor.toxicNames

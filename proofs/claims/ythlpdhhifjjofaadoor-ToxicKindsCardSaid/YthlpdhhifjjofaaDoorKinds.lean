/-
  The walk of chicanelaw09.ToxicKinds: it returns true, whatever kind and text. Conditions: what of the world the program's functions read.
-/
import Derived.Test.YthlpdhhifjjofaaDoorV
namespace Go.Proofs.YthlpdhhifjjofaaDoor.toxicKinds
open Go.RowKit

theorem word_none {k : Int} (h : k < 1 ∨ 7 < k) : wordB k = ⟨#[]⟩ := by
  unfold wordB wordL
  rw [if_neg (by omega), if_neg (by omega), if_neg (by omega), if_neg (by omega), if_neg (by omega), if_neg (by omega), if_neg (by omega)]
  rfl
set_option maxRecDepth 100000 in
set_option maxHeartbeats 4000000 in
theorem long (k : Int) (s : ByteArray) (hs : s.size ≤ maxLen) (w : World) (hf : Fit w) (h : 1000 < s.size) :
    Calls Tryd.prog 6 #[.int .i64 k, .string s] w fun e w' => e = .returned (.bool true) ∧ Below w.heap.size w w' := by
  have HA := Lib.hid (alive_any w hf)
  unfold maxLen at hs
  have d1 : decide (1000 < s.size) = true := by simpa using h
  clear hf
  go_enter Tryd.func6, Tryd.ntmps6
  go_wp2_with fail
  refine HA.out.mono ?_
  rintro e w3 ⟨rfl, hb⟩
  have HE := Lib.hid hb
  clear hb
  go_wp2_with fail
  go_ret
  exact ⟨rfl, HE.out⟩
set_option maxRecDepth 100000 in
set_option maxHeartbeats 8000000 in
theorem low (k : Int) (s : ByteArray) (hs : s.size ≤ 1000) (w : World) (hf : Fit w) (h : k < 1) :
    Calls Tryd.prog 6 #[.int .i64 k, .string s] w fun e w' => e = .returned (.bool true) ∧ Below w.heap.size w w' := by
  have HF := Lib.hid (show ∀ W, Below w.heap.size w W → Fit W from fun W hb => fit_on hf hb)
  have d4 : decide (4 ≤ k) = false := by simp; omega
  have d6 : decide (k ≤ 6) = true := by simp; omega
  have HE := Lib.hid (fun W h => ends_i k W h)
  obtain ⟨N, hN⟩ : ∃ N, numsB k = N := ⟨_, rfl⟩
  have HN1 := Lib.hid (fun W h => numbers_i k W h)
  have HN2 := Lib.hid (fun W => rnumbers_any k W)
  rw [hN] at HN1 HN2
  obtain ⟨Z, hZ⟩ : ∃ Z, wordB k = Z := ⟨_, rfl⟩
  have HW1 := Lib.hid (fun W h => word_i k W h)
  have HW2 := Lib.hid (fun W => rword_any k W)
  rw [hZ] at HW1 HW2
  have HK3 := Lib.hid (fun (h : (wordB k).size ≤ 1000000) W hf => kind_i (wordB k) h W hf)
  have hz10 := word_size k
  rw [hZ] at HK3 hz10
  obtain ⟨K, hK⟩ : ∃ K, kindB s = K := ⟨_, rfl⟩
  have HK1 := Lib.hid (fun W h => kind_i s (by omega) W h)
  have HK2 := Lib.hid (fun W => rkind_any s W)
  rw [hK] at HK1 HK2
  obtain rfl : Z = ⟨#[]⟩ := hZ.symm.trans (word_none (by omega))
  clear hz10 HK3
  clear hf hN hZ hK
  go_enter Tryd.func6, Tryd.ntmps6
  go_wp2_with fail
  refine (alive_any _ (HF.out _ (Below.refl _ _))).mono ?_
  rintro e w1 ⟨rfl, hb⟩
  have HB1 := Lib.hid (seqB (Below.refl w.heap.size w) hb)
  clear hb
  go_wp2_with fail
  refine (HW1.out _ (HF.out _ HB1.out)).mono ?_
  rintro e w2 ⟨rfl, hb⟩
  have HB2 := Lib.hid (seqB HB1.out hb)
  clear hb
  go_wp2_with fail
  refine (HW2.out _).mono ?_
  rintro e w' ⟨rfl, rfl⟩
  go_wp2_with fail
  refine (HK1.out _ (HF.out _ HB2.out)).mono ?_
  rintro e w3 ⟨rfl, hb⟩
  have HB3 := Lib.hid (seqB HB2.out hb)
  clear hb
  go_wp2_with fail
  refine (HK2.out _).mono ?_
  rintro e w' ⟨rfl, rfl⟩
  go_wp2_with fail
  refine (HN1.out _ (HF.out _ HB3.out)).mono ?_
  rintro e w4 ⟨rfl, hb⟩
  have HB4 := Lib.hid (seqB HB3.out hb)
  clear hb
  go_wp2_with fail
  refine (HN2.out _).mono ?_
  rintro e w' ⟨rfl, rfl⟩
  go_wp2_with fail
  refine (HE.out _ (HF.out _ HB4.out)).mono ?_
  rintro e w5 ⟨rfl, hb⟩
  have HB5 := Lib.hid (seqB HB4.out hb)
  clear hb
  go_wp2_with fail
  refine (HW2.out _).mono ?_
  rintro e w' ⟨rfl, rfl⟩
  go_wp2_with fail
  go_ret
  exact ⟨rfl, HB5.out⟩
set_option maxRecDepth 100000 in
set_option maxHeartbeats 8000000 in
theorem high (k : Int) (s : ByteArray) (hs : s.size ≤ 1000) (w : World) (hf : Fit w) (h : 7 < k) :
    Calls Tryd.prog 6 #[.int .i64 k, .string s] w fun e w' => e = .returned (.bool true) ∧ Below w.heap.size w w' := by
  have HF := Lib.hid (show ∀ W, Below w.heap.size w W → Fit W from fun W hb => fit_on hf hb)
  have d4 : decide (4 ≤ k) = true := by simp; omega
  have d6 : decide (k ≤ 6) = false := by simp; omega
  have HE := Lib.hid (fun W h => ends_i k W h)
  obtain ⟨N, hN⟩ : ∃ N, numsB k = N := ⟨_, rfl⟩
  have HN1 := Lib.hid (fun W h => numbers_i k W h)
  have HN2 := Lib.hid (fun W => rnumbers_any k W)
  rw [hN] at HN1 HN2
  obtain ⟨Z, hZ⟩ : ∃ Z, wordB k = Z := ⟨_, rfl⟩
  have HW1 := Lib.hid (fun W h => word_i k W h)
  have HW2 := Lib.hid (fun W => rword_any k W)
  rw [hZ] at HW1 HW2
  have HK3 := Lib.hid (fun (h : (wordB k).size ≤ 1000000) W hf => kind_i (wordB k) h W hf)
  have hz10 := word_size k
  rw [hZ] at HK3 hz10
  obtain ⟨K, hK⟩ : ∃ K, kindB s = K := ⟨_, rfl⟩
  have HK1 := Lib.hid (fun W h => kind_i s (by omega) W h)
  have HK2 := Lib.hid (fun W => rkind_any s W)
  rw [hK] at HK1 HK2
  obtain rfl : Z = ⟨#[]⟩ := hZ.symm.trans (word_none (by omega))
  clear hz10 HK3
  clear hf hN hZ hK
  go_enter Tryd.func6, Tryd.ntmps6
  go_wp2_with fail
  refine (alive_any _ (HF.out _ (Below.refl _ _))).mono ?_
  rintro e w1 ⟨rfl, hb⟩
  have HB1 := Lib.hid (seqB (Below.refl w.heap.size w) hb)
  clear hb
  go_wp2_with fail
  refine (HW1.out _ (HF.out _ HB1.out)).mono ?_
  rintro e w2 ⟨rfl, hb⟩
  have HB2 := Lib.hid (seqB HB1.out hb)
  clear hb
  go_wp2_with fail
  refine (HW2.out _).mono ?_
  rintro e w' ⟨rfl, rfl⟩
  go_wp2_with fail
  refine (HK1.out _ (HF.out _ HB2.out)).mono ?_
  rintro e w3 ⟨rfl, hb⟩
  have HB3 := Lib.hid (seqB HB2.out hb)
  clear hb
  go_wp2_with fail
  refine (HK2.out _).mono ?_
  rintro e w' ⟨rfl, rfl⟩
  go_wp2_with fail
  refine (HN1.out _ (HF.out _ HB3.out)).mono ?_
  rintro e w4 ⟨rfl, hb⟩
  have HB4 := Lib.hid (seqB HB3.out hb)
  clear hb
  go_wp2_with fail
  refine (HN2.out _).mono ?_
  rintro e w' ⟨rfl, rfl⟩
  go_wp2_with fail
  refine (HE.out _ (HF.out _ HB4.out)).mono ?_
  rintro e w5 ⟨rfl, hb⟩
  have HB5 := Lib.hid (seqB HB4.out hb)
  clear hb
  go_wp2_with fail
  refine (HW2.out _).mono ?_
  rintro e w' ⟨rfl, rfl⟩
  go_wp2_with fail
  go_ret
  exact ⟨rfl, HB5.out⟩
set_option maxRecDepth 100000 in
set_option maxHeartbeats 8000000 in
theorem few (k : Int) (s : ByteArray) (hs : s.size ≤ 1000) (w : World) (hf : Fit w) (h0 : 1 ≤ k) (h1 : k < 4) :
    Calls Tryd.prog 6 #[.int .i64 k, .string s] w fun e w' => e = .returned (.bool true) ∧ Below w.heap.size w w' := by
  have HF := Lib.hid (show ∀ W, Below w.heap.size w W → Fit W from fun W hb => fit_on hf hb)
  have d4 : decide (4 ≤ k) = false := by simp; omega
  have d6 : decide (k ≤ 6) = true := by simp; omega
  have HE := Lib.hid (fun W h => ends_i k W h)
  obtain ⟨N, hN⟩ : ∃ N, numsB k = N := ⟨_, rfl⟩
  have HN1 := Lib.hid (fun W h => numbers_i k W h)
  have HN2 := Lib.hid (fun W => rnumbers_any k W)
  rw [hN] at HN1 HN2
  obtain ⟨Z, hZ⟩ : ∃ Z, wordB k = Z := ⟨_, rfl⟩
  have HW1 := Lib.hid (fun W h => word_i k W h)
  have HW2 := Lib.hid (fun W => rword_any k W)
  rw [hZ] at HW1 HW2
  have HK3 := Lib.hid (fun (h : (wordB k).size ≤ 1000000) W hf => kind_i (wordB k) h W hf)
  have hz10 := word_size k
  rw [hZ] at HK3 hz10
  obtain ⟨K, hK⟩ : ∃ K, kindB s = K := ⟨_, rfl⟩
  have HK1 := Lib.hid (fun W h => kind_i s (by omega) W h)
  have HK2 := Lib.hid (fun W => rkind_any s W)
  rw [hK] at HK1 HK2
  have hne := beq_empty (show ¬ Z = ⟨#[]⟩ from hZ ▸ word_ne (by omega) (by omega))
  have hkw : kindB Z = k := by rw [← hZ]; exact kind_word (by omega) (by omega)
  have HK4 := Lib.hid (HK3.out (by omega))
  rw [hkw] at HK4
  clear hz10 HK3 hkw
  clear hf hN hZ hK
  go_enter Tryd.func6, Tryd.ntmps6
  go_wp2_with fail
  refine (alive_any _ (HF.out _ (Below.refl _ _))).mono ?_
  rintro e w1 ⟨rfl, hb⟩
  have HB1 := Lib.hid (seqB (Below.refl w.heap.size w) hb)
  clear hb
  go_wp2_with fail
  refine (HW1.out _ (HF.out _ HB1.out)).mono ?_
  rintro e w2 ⟨rfl, hb⟩
  have HB2 := Lib.hid (seqB HB1.out hb)
  clear hb
  go_wp2_with fail
  refine (HW2.out _).mono ?_
  rintro e w' ⟨rfl, rfl⟩
  go_wp2_with fail
  refine (HK1.out _ (HF.out _ HB2.out)).mono ?_
  rintro e w3 ⟨rfl, hb⟩
  have HB3 := Lib.hid (seqB HB2.out hb)
  clear hb
  go_wp2_with fail
  refine (HK2.out _).mono ?_
  rintro e w' ⟨rfl, rfl⟩
  go_wp2_with fail
  refine (HN1.out _ (HF.out _ HB3.out)).mono ?_
  rintro e w4 ⟨rfl, hb⟩
  have HB4 := Lib.hid (seqB HB3.out hb)
  clear hb
  go_wp2_with fail
  refine (HN2.out _).mono ?_
  rintro e w' ⟨rfl, rfl⟩
  go_wp2_with fail
  refine (HE.out _ (HF.out _ HB4.out)).mono ?_
  rintro e w5 ⟨rfl, hb⟩
  have HB5 := Lib.hid (seqB HB4.out hb)
  clear hb
  go_wp2_with fail
  refine (HW2.out _).mono ?_
  rintro e w' ⟨rfl, rfl⟩
  go_wp2_with fail
  refine (HW1.out _ (HF.out _ HB5.out)).mono ?_
  rintro e w6 ⟨rfl, hb⟩
  have HB6 := Lib.hid (seqB HB5.out hb)
  clear hb
  go_wp2_with fail
  refine (HK4.out _ (HF.out _ HB6.out)).mono ?_
  rintro e w7 ⟨rfl, hb⟩
  have HB7 := Lib.hid (seqB HB6.out hb)
  clear hb
  go_wp2_with fail
  go_ret
  exact ⟨rfl, HB7.out⟩
set_option maxRecDepth 100000 in
set_option maxHeartbeats 8000000 in
theorem mid (k : Int) (s : ByteArray) (hs : s.size ≤ 1000) (w : World) (hf : Fit w) (h0 : 4 ≤ k) (h1 : k ≤ 6) :
    Calls Tryd.prog 6 #[.int .i64 k, .string s] w fun e w' => e = .returned (.bool true) ∧ Below w.heap.size w w' := by
  have HF := Lib.hid (show ∀ W, Below w.heap.size w W → Fit W from fun W hb => fit_on hf hb)
  have d4 : decide (4 ≤ k) = true := by simp; omega
  have d6 : decide (k ≤ 6) = true := by simp; omega
  have HE := Lib.hid (fun W h => ends_i k W h)
  obtain ⟨N, hN⟩ : ∃ N, numsB k = N := ⟨_, rfl⟩
  have HN1 := Lib.hid (fun W h => numbers_i k W h)
  have HN2 := Lib.hid (fun W => rnumbers_any k W)
  rw [hN] at HN1 HN2
  obtain ⟨Z, hZ⟩ : ∃ Z, wordB k = Z := ⟨_, rfl⟩
  have HW1 := Lib.hid (fun W h => word_i k W h)
  have HW2 := Lib.hid (fun W => rword_any k W)
  rw [hZ] at HW1 HW2
  have HK3 := Lib.hid (fun (h : (wordB k).size ≤ 1000000) W hf => kind_i (wordB k) h W hf)
  have hz10 := word_size k
  rw [hZ] at HK3 hz10
  obtain ⟨K, hK⟩ : ∃ K, kindB s = K := ⟨_, rfl⟩
  have HK1 := Lib.hid (fun W h => kind_i s (by omega) W h)
  have HK2 := Lib.hid (fun W => rkind_any s W)
  rw [hK] at HK1 HK2
  have hne := beq_empty (show ¬ Z = ⟨#[]⟩ from hZ ▸ word_ne (by omega) (by omega))
  have hkw : kindB Z = k := by rw [← hZ]; exact kind_word (by omega) (by omega)
  have HK4 := Lib.hid (HK3.out (by omega))
  rw [hkw] at HK4
  clear hz10 HK3 hkw
  clear hf hN hZ hK
  go_enter Tryd.func6, Tryd.ntmps6
  go_wp2_with fail
  refine (alive_any _ (HF.out _ (Below.refl _ _))).mono ?_
  rintro e w1 ⟨rfl, hb⟩
  have HB1 := Lib.hid (seqB (Below.refl w.heap.size w) hb)
  clear hb
  go_wp2_with fail
  refine (HW1.out _ (HF.out _ HB1.out)).mono ?_
  rintro e w2 ⟨rfl, hb⟩
  have HB2 := Lib.hid (seqB HB1.out hb)
  clear hb
  go_wp2_with fail
  refine (HW2.out _).mono ?_
  rintro e w' ⟨rfl, rfl⟩
  go_wp2_with fail
  refine (HK1.out _ (HF.out _ HB2.out)).mono ?_
  rintro e w3 ⟨rfl, hb⟩
  have HB3 := Lib.hid (seqB HB2.out hb)
  clear hb
  go_wp2_with fail
  refine (HK2.out _).mono ?_
  rintro e w' ⟨rfl, rfl⟩
  go_wp2_with fail
  refine (HN1.out _ (HF.out _ HB3.out)).mono ?_
  rintro e w4 ⟨rfl, hb⟩
  have HB4 := Lib.hid (seqB HB3.out hb)
  clear hb
  go_wp2_with fail
  refine (HN2.out _).mono ?_
  rintro e w' ⟨rfl, rfl⟩
  go_wp2_with fail
  refine (HE.out _ (HF.out _ HB4.out)).mono ?_
  rintro e w5 ⟨rfl, hb⟩
  have HB5 := Lib.hid (seqB HB4.out hb)
  clear hb
  go_wp2_with fail
  refine (HW2.out _).mono ?_
  rintro e w' ⟨rfl, rfl⟩
  go_wp2_with fail
  refine (HW1.out _ (HF.out _ HB5.out)).mono ?_
  rintro e w6 ⟨rfl, hb⟩
  have HB6 := Lib.hid (seqB HB5.out hb)
  clear hb
  go_wp2_with fail
  refine (HK4.out _ (HF.out _ HB6.out)).mono ?_
  rintro e w7 ⟨rfl, hb⟩
  have HB7 := Lib.hid (seqB HB6.out hb)
  clear hb
  go_wp2_with fail
  go_ret
  exact ⟨rfl, HB7.out⟩
set_option maxRecDepth 100000 in
set_option maxHeartbeats 8000000 in
theorem slow (k : Int) (s : ByteArray) (hs : s.size ≤ 1000) (w : World) (hf : Fit w) (h : k = 7) :
    Calls Tryd.prog 6 #[.int .i64 k, .string s] w fun e w' => e = .returned (.bool true) ∧ Below w.heap.size w w' := by
  have HF := Lib.hid (show ∀ W, Below w.heap.size w W → Fit W from fun W hb => fit_on hf hb)
  have h0 : 7 ≤ k := by omega
  have h1 : k ≤ 7 := by omega
  clear h
  have d4 : decide (4 ≤ k) = true := by simp; omega
  have d6 : decide (k ≤ 6) = false := by simp; omega
  have HE := Lib.hid (fun W h => ends_i k W h)
  obtain ⟨N, hN⟩ : ∃ N, numsB k = N := ⟨_, rfl⟩
  have HN1 := Lib.hid (fun W h => numbers_i k W h)
  have HN2 := Lib.hid (fun W => rnumbers_any k W)
  rw [hN] at HN1 HN2
  obtain ⟨Z, hZ⟩ : ∃ Z, wordB k = Z := ⟨_, rfl⟩
  have HW1 := Lib.hid (fun W h => word_i k W h)
  have HW2 := Lib.hid (fun W => rword_any k W)
  rw [hZ] at HW1 HW2
  have HK3 := Lib.hid (fun (h : (wordB k).size ≤ 1000000) W hf => kind_i (wordB k) h W hf)
  have hz10 := word_size k
  rw [hZ] at HK3 hz10
  obtain ⟨K, hK⟩ : ∃ K, kindB s = K := ⟨_, rfl⟩
  have HK1 := Lib.hid (fun W h => kind_i s (by omega) W h)
  have HK2 := Lib.hid (fun W => rkind_any s W)
  rw [hK] at HK1 HK2
  have hne := beq_empty (show ¬ Z = ⟨#[]⟩ from hZ ▸ word_ne (by omega) (by omega))
  have hkw : kindB Z = k := by rw [← hZ]; exact kind_word (by omega) (by omega)
  have HK4 := Lib.hid (HK3.out (by omega))
  rw [hkw] at HK4
  clear hz10 HK3 hkw
  clear hf hN hZ hK
  go_enter Tryd.func6, Tryd.ntmps6
  go_wp2_with fail
  refine (alive_any _ (HF.out _ (Below.refl _ _))).mono ?_
  rintro e w1 ⟨rfl, hb⟩
  have HB1 := Lib.hid (seqB (Below.refl w.heap.size w) hb)
  clear hb
  go_wp2_with fail
  refine (HW1.out _ (HF.out _ HB1.out)).mono ?_
  rintro e w2 ⟨rfl, hb⟩
  have HB2 := Lib.hid (seqB HB1.out hb)
  clear hb
  go_wp2_with fail
  refine (HW2.out _).mono ?_
  rintro e w' ⟨rfl, rfl⟩
  go_wp2_with fail
  refine (HK1.out _ (HF.out _ HB2.out)).mono ?_
  rintro e w3 ⟨rfl, hb⟩
  have HB3 := Lib.hid (seqB HB2.out hb)
  clear hb
  go_wp2_with fail
  refine (HK2.out _).mono ?_
  rintro e w' ⟨rfl, rfl⟩
  go_wp2_with fail
  refine (HN1.out _ (HF.out _ HB3.out)).mono ?_
  rintro e w4 ⟨rfl, hb⟩
  have HB4 := Lib.hid (seqB HB3.out hb)
  clear hb
  go_wp2_with fail
  refine (HN2.out _).mono ?_
  rintro e w' ⟨rfl, rfl⟩
  go_wp2_with fail
  refine (HE.out _ (HF.out _ HB4.out)).mono ?_
  rintro e w5 ⟨rfl, hb⟩
  have HB5 := Lib.hid (seqB HB4.out hb)
  clear hb
  go_wp2_with fail
  refine (HW2.out _).mono ?_
  rintro e w' ⟨rfl, rfl⟩
  go_wp2_with fail
  refine (HW1.out _ (HF.out _ HB5.out)).mono ?_
  rintro e w6 ⟨rfl, hb⟩
  have HB6 := Lib.hid (seqB HB5.out hb)
  clear hb
  go_wp2_with fail
  refine (HK4.out _ (HF.out _ HB6.out)).mono ?_
  rintro e w7 ⟨rfl, hb⟩
  have HB7 := Lib.hid (seqB HB6.out hb)
  clear hb
  go_wp2_with fail
  go_ret
  exact ⟨rfl, HB7.out⟩
theorem walk (k : Int) (s : ByteArray) (hs : s.size ≤ maxLen) (w : World) (hf : Fit w) :
    Calls Tryd.prog 6 #[.int .i64 k, .string s] w fun e w' => e = .returned (.bool true) ∧ Below w.heap.size w w' := by
  rcases Nat.lt_or_ge 1000 s.size with h | h
  · exact long k s hs w hf h
  · by_cases h1 : k < 1
    · exact low k s h w hf h1
    · by_cases h4 : k < 4
      · exact few k s h w hf (by omega) h4
      · by_cases h6 : k ≤ 6
        · exact mid k s h w hf (by omega) h6
        · by_cases h7 : k = 7
          · exact slow k s h w hf h7
          · exact high k s h w hf (by omega)
end Go.Proofs.YthlpdhhifjjofaaDoor.toxicKinds

/-
  The walk of chicanelaw07.CargoKeeps: it returns true, whatever calls. Conditions: as each states.
-/
import Derived.Test.YtmblgpejgdlakaaV
namespace Go.Proofs.Ytmblgpejgdlakaa.cargoKeeps
open Go.RowKit

theorem doC_keep (S : ByteArray) (A : List Int) (last kind a N : Int) (s : ByteArray) : (doC S A last kind a N s).t ++ (doC S A last kind a N s).S = if kind = 0 then S ++ s else S := by
  have hnil : ∀ x : ByteArray, (⟨#[]⟩ : ByteArray) ++ x = x := fun x => nums_inj' (by rw [append_nums']; rfl)
  have hnil' : ∀ x : ByteArray, x ++ (⟨#[]⟩ : ByteArray) = x := fun x => nums_inj' (by rw [append_nums', show nums ⟨#[]⟩ = [] from rfl, List.append_nil])
  unfold doC
  by_cases h0 : kind = 0
  · rw [if_pos h0, if_pos h0]
    by_cases hz : s.size = 0
    · rw [if_pos hz, text_none hz]
      show _ ++ S = S ++ _
      rw [hnil, hnil']
    · rw [if_neg hz]
      exact hnil _
  · rw [if_neg h0, if_neg h0]
    by_cases h1 : kind = 1
    · rw [if_pos h1]
      show S.extract 0 (takeK A a N) ++ S.extract (takeK A a N) S.size = S
      apply nums_inj'
      rw [append_nums', ext_nums, ext_nums, List.drop_zero, Nat.sub_zero, List.take_of_length_le (l := (nums S).drop _) (by rw [List.length_drop, nums_length]; omega), List.take_append_drop]
    · rw [if_neg h1]
      by_cases h2 : kind = 2
      · rw [if_pos h2]
        exact hnil _
      · rw [if_neg h2]
        by_cases h3 : kind = 3
        · rw [if_pos h3]
          exact hnil' _
        · rw [if_neg h3]
          exact hnil _
theorem app_assoc (a b c : ByteArray) : (a ++ b) ++ c = a ++ (b ++ c) := nums_inj' (by rw [append_nums', append_nums', append_nums', append_nums', List.append_assoc])
set_option maxRecDepth 100000 in
set_option maxHeartbeats 16000000 in
theorem walk (p : Option Addr) (m d : Nat) (os : List Call) (w : World) (hx : os.length = m) (hmd : m ≤ d) (hd : d ≤ 9223372036854775807) (hz : ∀ o ∈ os, Wf64 o.1 ∧ Wf64 o.2.1 ∧ Wf64 o.2.2.1 ∧ o.2.2.2.size ≤ 140737488351232) (hj : OpsIn w p m os) :
    Calls Try.prog 4 #[.slice p m d] w fun e w' => e = .returned (.bool true) ∧ Below w.heap.size w w' := by
  have HX := Lib.hid hx
  have HJ := Lib.hid hj
  have HZ := Lib.hid hz
  clear hx hz hj
  go_enter Try.func4, Try.ntmps4
  go_wp2_with fail
  refine (new_at w _ (Below.refl _ _)).mono ?_
  rintro e w1 ⟨g, rfl, ha, _⟩
  have HA1 := Lib.hid ha
  clear ha
  obtain ⟨B, hB⟩ : ∃ B, w.heap.size = B := ⟨_, rfl⟩
  rw [hB] at HA1
  clear hB
  go_wp2_with fail
  refine (few_any p m d os _ HX.out hmd hd (fun o ho => (HZ.out o ho).2.2.2) (ops_on HJ.out HA1.out.below)).mono ?_
  rintro e w2 ⟨b, rfl, hf, hb⟩
  have HA2 := Lib.hid (HA1.out.on hb)
  have HF := Lib.hid hf
  clear hb hf HA1
  clear hmd hd
  cases b with
  | false =>
    clear HF
    go_wp2_with fail
    refine (alive_any _).mono ?_
    rintro e w5 ⟨rfl, hb5⟩
    have HB5 := Lib.hid (HA2.out.on hb5).below
    clear hb5
    go_wp2_with fail
    go_ret
    exact ⟨rfl, HB5.out⟩
  | true =>
    obtain ⟨hm, ht⟩ := HF.out rfl
    have HT := Lib.hid ht
    clear HF ht
    go_wp2_with fail
    go_loopw [4, 5, 25] (fun vi vo i wr => ∃ (k : Nat) (S : ByteArray) (A : List Int) (last : Int) (I O : ByteArray), k ≤ m ∧ i = .int .i64 k ∧ vi = .string I ∧ vo = .string O ∧ Hid (At w B g S A last (total (os.take k)) wr) ∧ Hid (O ++ S = I) ∧ Hid (I.size ≤ total (os.take k))) (fun _ _ i _ => m - (intOf i).toNat)
    case atStart => exact ⟨0, ⟨#[]⟩, [], 0, ⟨#[]⟩, ⟨#[]⟩, by omega, rfl, rfl, rfl, HA2, Lib.hid (nums_inj' (by rw [append_nums']; rfl)), Lib.hid (Nat.zero_le _)⟩
    case round =>
      clear HA2
      obtain ⟨k, S, A, last, I, O, hk, rfl, rfl, rfl, HA, HE, HL⟩ := hrel
      have HSO := Lib.hid (show O.size + S.size = I.size by rw [← HE.out, append_size'])
      by_cases hlt : k < m
      · obtain ⟨b, o, rfl, hcell⟩ := ops_on HJ.out HA.out.below (by omega)
        obtain ⟨c0, c1, c2, c3⟩ := hcell k hlt
        have hzk := HZ.out _ (at_of os k (by rw [HX.out]; exact hlt))
        have HTK := Lib.hid (total_step os k m HX.out hlt _ rfl)
        have HTL := Lib.hid (Nat.le_trans (total_take_le os (k + 1)) HT.out)
        generalize os.getD k noCall = O at *
        obtain ⟨kd, a, N, s⟩ := O
        simp only at c0 c1 c2 c3 HTK
        rw [← Nat.add_assoc] at c1 c2 c3
        have HID := Lib.hid hzk.2.1
        have hbl := World.block_lt_of_cell? wr _ c0
        have HSS := Lib.hid (show s.size ≤ 5000 by have h1 := HTK.out; have h2 := HTL.out; omega)
        clear hcell hzk
        have HSZ := Lib.hid (show I.size ≤ 5000 by have h1 := HL.out; have h2 := HTK.out; have h3 := HTL.out; omega)
        have hal : Below wr.heap.size wr (wr.alloc (.cells #[.int .i64 kd, .int .i64 a, .int .i64 N, .string s] 31)) := (Below.refl _ _).alloc (Nat.le_refl _) _
        have HA4 := Lib.hid (HA.out.on hal)
        have HO4 := Lib.hid (heap_alloc_new wr (.cells #[.int .i64 kd, .int .i64 a, .int .i64 N, .string s] 31))
        clear hal HA
        go_wp2_with fail
        generalize wr.alloc (.cells #[.int .i64 kd, .int .i64 a, .int .i64 N, .string s] 31) = w4 at *
        generalize wr.heap.size = go at *
        obtain ⟨X, hX⟩ : ∃ X, doC S A last kd a N s = X := ⟨_, rfl⟩
        have hkeep := doC_keep S A last kd a N s
        rw [hX] at hkeep
        have HKP := Lib.hid hkeep
        have HDs := Lib.hid (does_at (M1 := total (os.take (k + 1))) HA4.out (by rw [HTK.out]; exact Nat.le_refl _) (by have := HTL.out; omega) hX)
        clear hX hkeep
        refine HDs.out.mono ?_
        rintro e w7 ⟨rfl, ha7, hk7⟩
        obtain ⟨S1, A1, l1, nn, t1⟩ := X
        dsimp only at ha7 HKP ⊢
        have HA7 := Lib.hid ha7
        have HO7 := Lib.hid (keeps_op hk7 HO4.out)
        clear ha7 hk7 HDs HA4 HO4 c0 c1 c2 c3 hbl
        have o0 : w7.cell? ⟨go, 0, none⟩ = some (.int .i64 kd) := cell_of_row w7 go 0 _ _ _ HO7.out
        have o3 : w7.cell? ⟨go, 3, none⟩ = some (.string s) := cell_of_row w7 go 3 _ _ _ HO7.out
        have HTS := Lib.hid (show t1.size + S1.size ≤ S.size + s.size by
          have h := congrArg ByteArray.size HKP.out
          rw [append_size'] at h
          split at h
          · rw [append_size'] at h; omega
          · omega)
        have hOs : O.size ≤ 5000 := by have := HSZ.out; have := HSO.out; omega
        have hts : t1.size ≤ 10000 := by have := HSZ.out; have := HSO.out; have := HTS.out; have := HSS.out; omega
        have hIs : I.size ≤ 5000 := HSZ.out
        have hss : s.size ≤ 5000 := HSS.out
        by_cases hkd : kd = 0
        · subst hkd
          rw [if_pos rfl] at HKP
          have HE1 := Lib.hid (show (O ++ t1) ++ S1 = I ++ s by rw [app_assoc, HKP.out, ← app_assoc, HE.out])
          have HL1 := Lib.hid (show (I ++ s).size ≤ total (os.take (k + 1)) by rw [append_size']; have h1 := HL.out; have h2 := HTK.out; omega)
          go_wp2_with fail
          go_roundw
          case rel => exact ⟨k + 1, S1, A1, l1, _, _, by omega, by go_num, rfl, rfl, HA7, HE1, HL1⟩
          case measure => simp [intOf]; omega
        · rw [if_neg hkd] at HKP
          have HE1 := Lib.hid (show (O ++ t1) ++ S1 = I by rw [app_assoc, HKP.out, HE.out])
          have HL1 := Lib.hid (show I.size ≤ total (os.take (k + 1)) by have h1 := HL.out; have h2 := HTK.out; omega)
          have dk : (kd == 0) = false := by simpa using hkd
          clear hkd
          go_wp2_with fail
          go_roundw
          case rel => exact ⟨k + 1, S1, A1, l1, _, _, by omega, by go_num, rfl, rfl, HA7, HE1, HL1⟩
          case measure => simp [intOf]; omega
      · obtain rfl : k = m := by omega
        have HSZ := Lib.hid (show I.size ≤ 5000 by have h1 := HL.out; have h2 := total_take_le os k; have h3 := HT.out; omega)
        clear hlt hk
        go_wp2_with fail
        refine (alive_any _).mono ?_
        rintro e w5 ⟨rfl, hb5⟩
        have HA5 := Lib.hid (HA.out.on hb5)
        clear hb5 HA
        go_wp2_with fail
        refine (drain_at HA5.out rfl).mono ?_
        rintro e w6 ⟨⟨q, d6, rfl, hi, hT, _⟩, ha⟩
        have HA6 := Lib.hid ha
        have cv := got_text (d := d6) hi hT
        have hOs : O.size ≤ 5000 := by have := HSZ.out; have := HSO.out; omega
        have hSs : S.size ≤ 5000 := by have := HSZ.out; have := HSO.out; omega
        have he : ((O ++ S).toList == I.toList) = true := by rw [HE.out]; simp
        clear ha hi hT HA5
        go_wp2_with fail
        refine (len_at HA6.out (n := 0) rfl).mono ?_
        rintro e w7 ⟨rfl, hb⟩
        have HB7 := Lib.hid (HA6.out.on hb).below
        clear hb HA6
        go_wp2_with fail
        go_ret
        exact ⟨ret_bool (by simp), HB7.out⟩
end Go.Proofs.Ytmblgpejgdlakaa.cargoKeeps

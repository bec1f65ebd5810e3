/-
  The walk of chicanelaw04.LebTexts: it returns true, whatever text, bytes and number. Conditions: as each states.
-/
import Derived.Test.YtanbggegbhcfhaaNumbers
namespace Go.Proofs.Ytanbggegbhcfhaa
open Go.RowKit
theorem rgetstr_is (A : ByteArray) (xs : List Int) (most : Int) (hA : A = strOfNums xs) (hb : AllB xs) (hs : xs.length ≤ 5000) (w : World) : Calls Try.prog 16 #[.string A, .int .i64 most] w fun e w' => e = .returned (.tuple #[.string (strOfNums (gsL xs most).1), .int .i64 (gsL xs most).2]) ∧ Below w.heap.size w w' := by
  have h := rgetstr_any A (by rw [hA, strOfNums_size]; exact hs) most w
  rw [hA, nums_str xs hb] at h
  rw [hA]
  exact h
theorem conv_in {w : World} {q : Option Addr} {L d : Nat} {Z : List Int} {T : ByteArray} (h : Lib.BytesIn w q L Z) (hL : Z.length = L) (hT : T = strOfNums Z) : (convert 22 9 (.slice q L d)).run Try.prog w = .ok (.string T) w := by
  subst hT
  exact conv_bytes h hL d
theorem out_in {zs : List Int} {L : Nat} {w : World} {e : Ending} {w' : World} (h : OutB zs w e w') (hL : zs.length = L) : ∃ q c, e = .returned (.slice q L c) ∧ Lib.BytesIn w' q L zs ∧ Below w.heap.size w w' := by
  obtain ⟨q, c, rfl, hi, _, _, _, _, hb⟩ := out_bytes h
  subst hL
  exact ⟨q, c, rfl, hi, hb⟩
namespace lebTexts

set_option maxHeartbeats 2000000 in
theorem walk_long (s : ByteArray) (p : Option Addr) (n c : Nat) (most : Int) (h : 2000 < s.size + n) (hs : s.size ≤ 140737488355328) (hn : n ≤ 140737488355328) (w : World) :
    Calls Try.prog 4 #[.string s, .slice p n c, .int .i64 most] w fun e w' => e = .returned (.bool true) ∧ Below w.heap.size w w' := by
  have d1 : decide ((2000 : Int) < (s.size : Int) + (n : Int)) = true := by simp; omega
  go_enter Try.func4, Try.ntmps4
  go_wp2_with fail
  refine (alive_any _).mono ?_
  rintro e w5 ⟨rfl, hb5⟩
  have HB5 := Lib.hid hb5
  clear hb5
  go_wp2_with fail
  go_ret
  exact ⟨rfl, HB5.out⟩

set_option maxHeartbeats 8000000 in
theorem walk_main (s : ByteArray) (p : Option Addr) (n c : Nat) (most : Int) (xs : List Int) (w : World) (hx : xs.length = n) (hnc : n ≤ c) (hm : c ≤ 9223372036854775807) (hb : AllB xs) (hpc : p = none → c = 0) (hi : Lib.BytesIn w p n xs) (hn : s.size + n ≤ 2000) :
    Calls Try.prog 4 #[.string s, .slice p n c, .int .i64 most] w fun e w' => e = .returned (.bool true) ∧ Below w.heap.size w w' := by
  have HX := Lib.hid hx
  have HA := Lib.hid hb
  have HP := Lib.hid hpc
  have HI := Lib.hid hi
  have d1 : decide ((2000 : Int) < (s.size : Int) + (n : Int)) = false := by simp; omega
  obtain ⟨Bs, HBS⟩ : ∃ Bs, Hid (Bs = strOfNums xs) := ⟨_, Lib.hid rfl⟩
  obtain ⟨Y, HY⟩ : ∃ Y, Hid (Y = strL (nums s)) := ⟨_, Lib.hid rfl⟩
  obtain ⟨D, HD⟩ : ∃ D, Hid (D = strOfNums (strL (nums s))) := ⟨_, Lib.hid rfl⟩
  obtain ⟨Z, HZ⟩ : ∃ Z, Hid (Z = xs ++ strL (nums s)) := ⟨_, Lib.hid rfl⟩
  have hYl := strL_len (nums s) (by rw [nums_length]; omega)
  rw [nums_length] at hYl
  have hDs : D.size ≤ 3000 := by rw [HD.out, strOfNums_size]; omega
  have hBs : Bs.size ≤ 3000 := by rw [HBS.out, strOfNums_size]; omega
  rw [← HY.out] at hYl
  obtain ⟨L, HL⟩ : ∃ L, Hid (Z.length = L) := ⟨_, Lib.hid rfl⟩
  obtain ⟨M, HM⟩ : ∃ M, Hid (Y.length = M) := ⟨_, Lib.hid rfl⟩
  rw [HM.out] at hYl
  have HAY := Lib.hid (show AllB Y by rw [HY.out]; exact allB_str (nums_all s))
  have hG := getstr_any p n c xs most w hx hnc hm hb hi
  have hRG := fun w => rgetstr_is Bs xs most HBS.out hb (by omega) w
  obtain ⟨G, hGG⟩ : ∃ G, strOfNums (gsL xs most).1 = G := ⟨_, rfl⟩
  obtain ⟨K, hK⟩ : ∃ K : Int, (((gsL xs most).2 : Nat) : Int) = K := ⟨_, rfl⟩
  rw [hGG, hK] at hG
  simp only [hGG, hK] at hRG
  have HG := Lib.hid hG
  have HRG := Lib.hid hRG
  have HF1 := Lib.hid (show gsL (Y ++ xs) (s.size : Int) = (nums s, M) by
    rw [← HM.out, HY.out]
    exact gs_str (nums s) xs (by rw [nums_length]; omega) _ (by rw [nums_length]; omega))
  have HF2 := Lib.hid (show gsL Y ((s.size : Int) - 1) = ([], 0) by
    have h := gs_short (nums s) [] (by rw [nums_length]; omega) ((s.size : Int) - 1) (by rw [nums_length]; omega)
    rw [List.append_nil, ← HY.out] at h
    exact h)
  have cv0 : (convert 22 9 (.slice p n c)).run Try.prog w = .ok (.string Bs) w := by rw [HBS.out]; exact conv_bytes hi hx c
  clear hx hb hpc hi hG hRG hGG hK
  go_enter Try.func4, Try.ntmps4
  go_wp2_with fail
  refine HG.out.mono ?_
  rintro e w1 ⟨rfl, rfl⟩
  go_wp2_with fail
  clear cv0
  refine (HRG.out _).mono ?_
  rintro e w1 ⟨rfl, hb1⟩
  have HB1 := Lib.hid hb1
  clear hb1 HRG HG
  go_wp2_with fail
  refine (str_nil s Y HY.out (by omega) _).mono ?_
  rintro e w2 ⟨u, rfl, ho, hb2⟩
  rw [HM.out] at ho
  obtain ⟨q3, d3, w3, hrun, hi3, hd3, hd3', hb3⟩ := app_own ho hb2.size hb2 HX.out HP.out (bytes_on HI.out (seqB HB1.out hb2)) (by omega) 22
  have HR := Lib.hid hrun
  have HI3 := Lib.hid hi3
  have HB3 := Lib.hid (seqB HB1.out hb3)
  clear hrun hi3 hb3 hb2 ho
  go_wp2_with (at_builtin; refine Lib.wpList_append_run _ rfl _ _ _ _ rfl _ _ rfl rfl _ _ HR.out ?_)
  clear HR
  refine (getstr_any q3 (M + n) d3 (Y ++ xs) (s.size : Int) _ (by rw [List.length_append, HM.out, HX.out]) hd3 hd3' (HAY.out.append HA.out) HI3.out).mono ?_
  rw [HF1.out, str_nums]
  rintro e w4 ⟨rfl, rfl⟩
  clear HI3
  simp only
  go_wp2_with fail
  refine (str_nil s Y HY.out (by omega) _).mono ?_
  intro e w4 ho
  obtain ⟨q4, d4, rfl, hi4, _, hd4, hd4', _, hb4⟩ := out_bytes ho
  rw [HM.out] at hi4 hd4
  rw [HM.out]
  have HI4 := Lib.hid hi4
  have HB4 := Lib.hid (seqB HB3.out hb4)
  clear hi4 hb4 ho
  go_wp2_with fail
  refine (getstr_any q4 M d4 Y ((s.size : Int) - 1) _ HM.out hd4 hd4' HAY.out HI4.out).mono ?_
  rw [HF2.out]
  rintro e w5 ⟨rfl, rfl⟩
  simp only
  clear HI4
  have HCV := Lib.hid (show ∀ (w' : World) (h : Below w4.heap.size w4 w'), (convert 22 9 (.slice p n c)).run Try.prog w' = .ok (.string Bs) w' ∧ Below w4.heap.size w4 w' from fun w' h => by
    rw [HBS.out]
    exact ⟨conv_bytes (bytes_on HI.out (seqB HB4.out h)) HX.out c, h⟩)
  have HSD := Lib.hid (show Bs ++ D = strOfNums Z by rw [HBS.out, HD.out, str_append, HZ.out])
  have eM : ((M : Int) == (D.size : Int)) = true := by
    rw [HD.out, strOfNums_size, ← HY.out, HM.out]
    simp
  have eM' : (M == D.size) = true := by
    rw [HD.out, strOfNums_size, ← HY.out, HM.out]
    simp
  have HS17 := Lib.hid (show ∀ w', Below w4.heap.size w4 w' → Calls Try.prog 17 #[.slice p n c, .string s] w' (OutB Z w') from fun w' h => by
    rw [HZ.out]
    exact str_any p n c xs s w' HX.out (by omega) (bytes_on HI.out (seqB HB4.out h)))
  go_wp2_with fail
  go_region_held (fun w' => (convert 22 9 (.slice p n c)).run Try.prog w' = .ok (.string Bs) w' ∧ Below w4.heap.size w4 w')
    ((refine HCV.out _ ?_
      go_split_ands
      first
        | with_reducible exact Below.refl _ _
        | with_reducible exact (Below.refl _ _).drew
        | with_reducible assumption
        | with_reducible exact Below.drew (by assumption)
        | with_reducible exact seqB (by assumption) (by assumption)))
    (first
      | (go_at_call 10; refine (alive_any _).mono ?_; rintro e w' ⟨rfl, hb'⟩)
      | (go_at_call 18; (with_reducible refine Calls.mono (rstr_doc s (by omega) D HD.out _) ?_); rintro e w' ⟨rfl, hb'⟩; first | (have cv := conv_in (d := d7) (bytes_on HI7.out hb') HL.out HSD.out) | skip)
      | (go_at_call 17; go_split_ands; (with_reducible refine Calls.mono (HS17.out _ (by assumption)) ?_); intro e w' ho; obtain ⟨q7, d7, rfl, hi7, hb'⟩ := out_in ho HL.out; have HI7 := Lib.hid hi7; have cv := conv_in (d := d7) hi7 HL.out HSD.out; clear ho hi7))
  all_goals
    have HBE := Lib.hid (show Below w.heap.size w w' by go_split_ands; exact seqB HB4.out (by assumption))
    go_split_ands
    go_wp2_with fail
    go_ret
    exact ⟨rfl, HBE.out⟩

theorem walk (s : ByteArray) (p : Option Addr) (n c : Nat) (most : Int) (xs : List Int) (w : World) (hx : xs.length = n) (hnc : n ≤ c) (hm : c ≤ 9223372036854775807) (hb : AllB xs) (hpc : p = none → c = 0) (hi : Lib.BytesIn w p n xs) (hs : s.size ≤ 140737488355328) (hn : n ≤ 140737488355328) :
    Calls Try.prog 4 #[.string s, .slice p n c, .int .i64 most] w fun e w' => e = .returned (.bool true) ∧ Below w.heap.size w w' := by
  by_cases h : 2000 < s.size + n
  · exact walk_long s p n c most h hs hn w
  · exact walk_main s p n c most xs w hx hnc hm hb hpc hi (by omega)
end lebTexts
end Go.Proofs.Ytanbggegbhcfhaa

/-
  Law WordsRest: what stands behind a # where a word would begin changes no word. Conditions: the form's reach; a word of the library holds some number.
-/
import Derived.Test.YtngnkkigjlenoaaGreatDoorW
namespace Go.Proofs.YtngnkkigjlenoaaGreatDoor
open Go.RowKit

theorem ba_size3 (a b : ByteArray) : (a ++ (⟨#[32, 35]⟩ : ByteArray) ++ b).size = a.size + 2 + b.size := by
  rw [cat_size, cat_size]
  rfl
theorem rest_nums (a b : ByteArray) : nums (a ++ (⟨#[32, 35]⟩ : ByteArray) ++ b) = nums a ++ 32 :: 35 :: nums b := by
  rw [nums_append, nums_append, List.append_assoc]
  rfl
theorem odd_byte {c : Int} (h : knd c = 1) : (c < 32 ∧ c ≠ 9) ∨ (¬ c < 32 ∧ 126 < c ∧ c ≠ 9) := by
  unfold knd at h
  (repeat' split at h) <;> omega
theorem may_byte {c : Int} (h : ¬ knd c = 1) : (¬ c < 32 ∧ ¬ 126 < c) ∨ c = 9 := by
  unfold knd at h
  (repeat' split at h) <;> omega
theorem may_take {xs : List Int} {k : Nat} (h : mayL (xs.take k)) (hk : k < xs.length) (hc : ¬ knd (xs.getD k 0) = 1) : mayL (xs.take (k + 1)) := by
  rw [List.take_succ_eq_append_getElem hk]
  rw [List.getD_eq_getElem?_getD, List.getElem?_eq_getElem hk] at hc
  intro x hx
  rcases List.mem_append.1 hx with hx | hx
  · exact h x hx
  · rw [List.mem_singleton.1 hx]; exact hc
set_option maxRecDepth 100000 in
set_option maxHeartbeats 8000000 in
theorem wordsRest.walk (s r : ByteArray) (w : World) (hs : s.size ≤ 140737488351232) (hrs : r.size ≤ 140737488351232) (hg : Big w) : Calls Tryz.prog 7 #[.string s, .string r] w fun e w' => e = .returned (.bool true) ∧ Below w.heap.size w w' := by
  have HAl := Lib.hid (fun W (hb : Below w.heap.size w W) => alive_any W (big_on hg hb))
  clear hg
  have hwa : IntKind.i64.wrap ((s.size : Int) + (r.size : Int)) = (s.size : Int) + (r.size : Int) := IntWalk.i64_in _ (by omega)
  have hwb : IntKind.i64.wrap ((s.size : Int) + (r.size : Int) + 2) = (s.size : Int) + (r.size : Int) + 2 := IntWalk.i64_in _ (by omega)
  by_cases h256 : s.size + r.size + 2 ≤ 256
  · have d1 : decide ((s.size : Int) + (r.size : Int) + 2 > 256) = false := decide_eq_false (by omega)
    have d2 : decide ((256 : Int) < (s.size : Int) + (r.size : Int) + 2) = false := decide_eq_false (by omega)
    have HSp := Lib.hid (split_any s (by omega) w)
    cases hR : spS [] (nums s) with
    | bad rr c =>
      rw [hR] at HSp
      have hcc := bad_code _ _ _ _ _ (Nat.le_refl _) hR
      have q0 : (c != 0) = true := by simp; omega
      clear h256 hR hcc hs hrs
      go_enter Tryz.func7, Tryz.ntmps7
      go_wp2_with fail
      refine HSp.out.mono ?_
      rintro e w1 ⟨rfl, hb1⟩
      have HA1 := Lib.hid (HAl.out w1 hb1)
      have HB1 := Lib.hid hb1
      clear hb1
      go_wp2_with fail
      refine HA1.out.mono ?_
      rintro e w2 ⟨rfl, hb2⟩
      have HB2 := Lib.hid (seqB HB1.out hb2)
      clear hb2
      go_wp2_with fail
      go_ret
      exact ⟨rfl, HB2.out⟩
    | ok wl =>
      rw [hR] at HSp
      obtain ⟨ps, hps⟩ : ∃ ps, wl.map strOfNums = ps := ⟨_, rfl⟩
      have hpl : wl.length = ps.length := by rw [← hps, List.length_map]
      have hok := ok_words _ _ [] (nums s) wl (Nat.le_refl _) (Nat.le_refl _) (by decide) (fun v hv => by cases hv) hR
      have hfew : ps.length ≤ 16 := by rw [← hpl]; exact hok.1
      have h2 := spS_rest (nums r) _ [] (nums s) wl (Nat.le_refl _) hR
      rw [← rest_nums] at h2
      obtain ⟨X, hX⟩ : ∃ X, s ++ (⟨#[32, 35]⟩ : ByteArray) = X := ⟨_, rfl⟩
      obtain ⟨T, hT⟩ : ∃ T, X ++ r = T := ⟨_, rfl⟩
      rw [hX, hT] at h2
      have hXs : X.size = s.size + 2 := by rw [← hX, cat_size]; rfl
      have hTs : T.size ≤ 256 := by rw [← hT, cat_size, hXs]; omega
      have r1 := fun W => cat_run hX (by omega) (by show 2 ≤ _; omega) W
      have r2 := fun W => cat_run hT (by omega) (by omega) W
      have HS2 := Lib.hid (fun W => split_any T hTs W)
      have HRL := Lib.hid (nums_length r)
      have hr254 : r.size ≤ 254 := by omega
      by_cases hmay : mayL (nums r)
      · rw [h2, rem_may hmay, spS_nil] at HS2
        have HMay := Lib.hid hmay
        clear hR h256 hok h2 hX hT hXs hTs hmay hs hrs
        go_enter Tryz.func7, Tryz.ntmps7
        go_wp2_with fail
        refine HSp.out.mono ?_
        rintro e w1 ⟨q, d, rfl, hs1, hb1⟩
        rw [hps, hpl] at hs1
        rw [hpl]
        have HT1 := Lib.hid hs1.txt
        have HB1 := Lib.hid hb1
        clear hs1 hb1 HSp
        go_wp2_with fail
        refine (HS2.out _).mono ?_
        rintro e w2 ⟨q2, dd2, rfl, hs2, hb2⟩
        rw [hps, hpl] at hs2
        rw [hpl]
        have HT2 := Lib.hid (HT1.out.on hb2)
        have HM2 := Lib.hid hs2.txt
        have HB2 := Lib.hid (seqB HB1.out hb2)
        clear hs2 hb2 HS2 HT1 HB1
        go_wp2_with fail
        go_loopw [11, 12, 41] (fun _ _ i wr => ∃ k : Nat, k ≤ r.size ∧ i = .int .i64 k ∧ w2 = wr) (fun _ _ i _ => r.size - (intOf i).toNat)
        case atStart => exact ⟨0, Nat.zero_le _, rfl, rfl⟩
        case round =>
          obtain ⟨k, hk, rfl, rfl⟩ := hrel
          by_cases hlt : k < r.size
          · have d3 : decide ((k : Int) < (r.size : Int)) = true := decide_eq_true (by omega)
            have hx := nums_at r k hlt
            have hwk : IntKind.i64.wrap ((k : Int) + 1) = (k : Int) + 1 := IntWalk.i64_in _ (by omega)
            have hc : ¬ knd ((nums r).getD k 0) = 1 := HMay.out _ (by
              rw [List.getD_eq_getElem?_getD, List.getElem?_eq_getElem (by rw [HRL.out]; exact hlt)]
              exact List.getElem_mem _)
            obtain ⟨c, hcc⟩ : ∃ c, (nums r).getD k 0 = c := ⟨_, rfl⟩
            rw [hcc] at hx hc
            rcases may_byte hc with ⟨g1, g2⟩ | g1
            · have e1 : decide (c < 32) = false := decide_eq_false g1
              have e2 : decide (c > 126) = false := decide_eq_false g2
              clear hc hcc
              go_wp2_with fail
              go_roundw
              case rel => exact ⟨k + 1, by omega, by go_num, by first | rfl | trivial⟩
              case measure => simp [intOf]; omega
            · subst g1
              clear hc hcc
              go_wp2_with fail
              go_roundw
              case rel => exact ⟨k + 1, by omega, by go_num, by first | rfl | trivial⟩
              case measure => simp [intOf]; omega
          · obtain rfl : k = r.size := by omega
            have d3 : decide ((r.size : Int) < (r.size : Int)) = false := by simp
            have HA3 := Lib.hid (HAl.out w2 HB2.out)
            go_wp2_with fail
            refine HA3.out.mono ?_
            rintro e w4 ⟨rfl, hb4⟩
            have HB4 := Lib.hid (seqB HB2.out hb4)
            have HSm := Lib.hid (same_any q2 q ps.length ps.length dd2 d ps ps w4 (HM2.out.on hb4) (HT2.out.on hb4) (by omega) (by omega))
            rw [show decide (ps = ps) = true from by simp] at HSm
            clear hb4
            go_wp2_with fail
            refine HSm.out.mono ?_
            rintro e w5 ⟨rfl, hb5⟩
            have HB5 := Lib.hid (seqB HB4.out hb5)
            clear hb5
            go_wp2_with fail
            go_ret
            exact ⟨rfl, HB5.out⟩
      · obtain ⟨rr, hrr⟩ : ∃ rr, spS wl (remL (nums r)) = .bad rr 150 := by
          rcases rem_head (nums r) with h0 | h0
          · exact absurd (may_rem h0) hmay
          · cases hy : remL (nums r) with
            | nil => rw [hy] at h0; simp [kL] at h0
            | cons c y => rw [hy] at h0; exact ⟨_, spS_odd h0⟩
        rw [h2, hrr] at HS2
        have HMay := Lib.hid hmay
        clear hR h256 hok h2 hX hT hXs hTs hmay hs hrs hrr
        go_enter Tryz.func7, Tryz.ntmps7
        go_wp2_with fail
        refine HSp.out.mono ?_
        rintro e w1 ⟨q, d, rfl, hs1, hb1⟩
        rw [hpl]
        have HB1 := Lib.hid hb1
        clear hs1 hb1 HSp
        go_wp2_with fail
        refine (HS2.out _).mono ?_
        rintro e w2 ⟨rfl, hb2⟩
        have HB2 := Lib.hid (seqB HB1.out hb2)
        clear hb2 HS2 HB1
        go_wp2_with fail
        go_loopw [11, 12, 41] (fun _ _ i wr => ∃ k : Nat, k ≤ r.size ∧ i = .int .i64 k ∧ w2 = wr ∧ Hid (mayL ((nums r).take k))) (fun _ _ i _ => r.size - (intOf i).toNat)
        case atStart => exact ⟨0, Nat.zero_le _, rfl, rfl, Lib.hid (fun x hx => by simp at hx)⟩
        case round =>
          obtain ⟨k, hk, rfl, rfl, HT⟩ := hrel
          by_cases hlt : k < r.size
          · have d3 : decide ((k : Int) < (r.size : Int)) = true := decide_eq_true (by omega)
            have hx := nums_at r k hlt
            have hwk : IntKind.i64.wrap ((k : Int) + 1) = (k : Int) + 1 := IntWalk.i64_in _ (by omega)
            have HYes := Lib.hid (fun h => may_take HT.out (by rw [HRL.out]; exact hlt) h)
            have HA3 := Lib.hid (HAl.out w2 HB2.out)
            obtain ⟨c, hcc⟩ : ∃ c, (nums r).getD k 0 = c := ⟨_, rfl⟩
            rw [hcc] at hx HYes
            clear hcc
            by_cases hc : knd c = 1
            · rcases odd_byte hc with ⟨g1, g3⟩ | ⟨g1, g2, g3⟩
              · have e1 : decide (c < 32) = true := decide_eq_true g1
                have e3 : (c != 9) = true := by simpa using g3
                clear hc HYes
                go_wp2_with fail
                refine HA3.out.mono ?_
                rintro e w4 ⟨rfl, hb4⟩
                have HB4 := Lib.hid (seqB HB2.out hb4)
                clear hb4
                go_wp2_with fail
                go_ret
                exact ⟨rfl, HB4.out⟩
              · have e1 : decide (c < 32) = false := decide_eq_false g1
                have e2 : decide (c > 126) = true := decide_eq_true g2
                have e3 : (c != 9) = true := by simpa using g3
                clear hc HYes
                go_wp2_with fail
                refine HA3.out.mono ?_
                rintro e w4 ⟨rfl, hb4⟩
                have HB4 := Lib.hid (seqB HB2.out hb4)
                clear hb4
                go_wp2_with fail
                go_ret
                exact ⟨rfl, HB4.out⟩
            · have HF := Lib.hid (HYes.out hc)
              rcases may_byte hc with ⟨g1, g2⟩ | g1
              · have e1 : decide (c < 32) = false := decide_eq_false g1
                have e2 : decide (c > 126) = false := decide_eq_false g2
                clear hc HYes
                go_wp2_with fail
                go_roundw
                case rel => exact ⟨k + 1, by omega, by go_num, by first | rfl | trivial, HF⟩
                case measure => simp [intOf]; omega
              · subst g1
                clear hc HYes
                go_wp2_with fail
                go_roundw
                case rel => exact ⟨k + 1, by omega, by go_num, by first | rfl | trivial, HF⟩
                case measure => simp [intOf]; omega
          · obtain rfl : k = r.size := by omega
            have h := HT.out
            rw [← HRL.out, List.take_length] at h
            exact absurd h HMay.out
  · have d2 : (256 : Int) < (s.size : Int) + (r.size : Int) + 2 := by omega
    have HA1 := Lib.hid (HAl.out w (Below.refl _ _))
    clear h256
    go_enter Tryz.func7, Tryz.ntmps7
    go_wp2_with fail
    refine HA1.out.mono ?_
    rintro e w2 ⟨rfl, hb2⟩
    have HB2 := Lib.hid hb2
    clear hb2
    go_wp2_with fail
    go_ret
    exact ⟨rfl, HB2.out⟩
end Go.Proofs.YtngnkkigjlenoaaGreatDoor

/-
  Law WordsOnce: words that were split, joined, and split again, are the same. Conditions: a word of the library holds some number.
-/
import Derived.Test.YtngnkkigjlenoaaGreatDoorV
namespace Go.Proofs.YtngnkkigjlenoaaGreatDoor
open Go.RowKit

set_option maxRecDepth 100000 in
set_option maxHeartbeats 4000000 in
theorem split_long (s : ByteArray) (hs : ¬ s.size ≤ 256) (w : World) : Calls Tryz.prog 13 #[.string s] w fun e w' => e = .returned (.tuple #[.slice none 0 0, .int .i64 256, .int .i64 150]) ∧ w = w' := by
  have d2 : (256 : Int) < (s.size : Int) := by omega
  clear hs
  go_enter Tryz.func13, Tryz.ntmps13
  go_wp2_with fail
  refine wp_scope_jumps 0 (fun _ _ => False) (fun _ _ => 0) rfl ?_ (fun _ _ h => h.elim)
  go_wp2_with fail
  simp only [Exit.jump]
  go_ret3
  exact ⟨rfl, rfl⟩
theorem map_back (ps : List ByteArray) : (ps.map nums).map strOfNums = ps := by
  rw [List.map_map]
  conv => rhs; rw [← List.map_id ps]
  apply List.map_congr_left
  intro t _
  exact str_nums t
theorem joinW_all (ps : List ByteArray) : AllB (joinW (ps.map nums)) := by
  unfold joinW
  split
  · exact allB_nil
  · exact lin_all _ fun v hv => by
      obtain ⟨s, _, rfl⟩ := List.mem_map.1 hv
      exact nums_all s
theorem joinW_len (l : List (List Int)) : (joinW l).length ≤ 256 := by
  unfold joinW
  split
  · exact Nat.zero_le _
  · next h => exact Nat.le_of_not_lt fun hn => h (Or.inr (Or.inr hn))
theorem joinB_nums (ps : List ByteArray) : nums (joinB ps) = joinW (ps.map nums) := nums_str _ (joinW_all ps)
theorem joinB_size (ps : List ByteArray) : (joinB ps).size ≤ 256 := by
  rw [← nums_length, joinB_nums]
  exact joinW_len _
theorem bad_code (n : Nat) : ∀ (ws : List (List Int)) (xs : List Int) (r : List Int) (c : Int), xs.length ≤ n → spS ws xs = .bad r c → c = 150 ∨ c = 151 := by
  induction n with
  | zero =>
    intro ws xs r c hx h
    obtain rfl : xs = [] := List.length_eq_zero_iff.1 (by omega)
    cases h
  | succ n ih =>
    intro ws xs r c hx h
    cases xs with
    | nil => cases h
    | cons x t =>
      have ht : t.length ≤ n := by simpa using hx
      have hk := knd_range x
      by_cases h1 : knd x = 1
      · rw [spS_odd h1] at h; injection h with _ h; exact Or.inl h.symm
      by_cases h2 : knd x = 2
      · rw [spS_gap h2] at h; exact ih _ _ _ _ ht h
      by_cases h3 : knd x = 3
      · rw [spS_hash h3] at h
        have := rem_len (r := t) h1
        exact ih _ _ _ _ (by omega) h
      by_cases hl : ws.length = 16
      · rw [spS_many (by omega) hl] at h; injection h with _ h; exact Or.inr h.symm
      by_cases h4 : knd x = 4
      · rw [spS_quote h4 hl] at h
        split at h
        · have := suf_len (quo_suffix t)
          exact ih _ _ _ _ (by omega) h
        · injection h with _ h; exact Or.inl h.symm
      · rw [spS_bare (by omega) hl] at h
        split at h
        · next he =>
          have := bare_len he h2
          exact ih _ _ _ _ (by omega) h
        · injection h with _ h; exact Or.inl h.symm
/-- The words of a line are few, and none is longer than the line. -/
theorem quo_len (xs : List Int) : (quoL xs).2.1.length + (quoL xs).2.2.length ≤ xs.length := by
  refine quo_ind (P := fun xs => (quoL xs).2.1.length + (quoL xs).2.2.length ≤ xs.length) ?_ ?_ ?_ ?_ ?_ ?_ xs.length xs (Nat.le_refl _)
  · exact Nat.le_refl _
  · intro c r h; rw [quoL_quote h]; simp
  · intro c d r h hd ih; rw [quoL_stroke h hd]; simp; omega
  · intro c r h hr; rw [quoL_lone h hr]; simp
  · intro c r h; rw [quoL_odd h]; simp
  · intro c r h ih; rw [quoL_sign h]; simp; omega
theorem ok_words (N n : Nat) : ∀ (ws : List (List Int)) (xs : List Int) (l : List (List Int)), xs.length ≤ n → n ≤ N → ws.length ≤ 16 → (∀ v ∈ ws, v.length ≤ N) → spS ws xs = .ok l → l.length ≤ 16 ∧ ∀ v ∈ l, v.length ≤ N := by
  have more : ∀ (ws : List (List Int)) (v : List Int), (∀ u ∈ ws, u.length ≤ N) → v.length ≤ N → ∀ u ∈ ws ++ [v], u.length ≤ N := fun ws v h hv u hu => by
    rcases List.mem_append.1 hu with hu | hu
    · exact h u hu
    · rw [List.mem_singleton.1 hu]; exact hv
  induction n with
  | zero =>
    intro ws xs l hx _ hw hv h
    obtain rfl : xs = [] := List.length_eq_zero_iff.1 (by omega)
    obtain rfl : ws = l := by simpa [spS_nil] using h
    exact ⟨hw, hv⟩
  | succ n ih =>
    intro ws xs l hx hN hw hv h
    cases xs with
    | nil =>
      obtain rfl : ws = l := by simpa [spS_nil] using h
      exact ⟨hw, hv⟩
    | cons x t =>
      have ht : t.length ≤ n := by simpa using hx
      have hk := knd_range x
      by_cases h1 : knd x = 1
      · rw [spS_odd h1] at h; cases h
      by_cases h2 : knd x = 2
      · rw [spS_gap h2] at h; exact ih _ _ _ ht (by omega) hw hv h
      by_cases h3 : knd x = 3
      · rw [spS_hash h3] at h
        have := rem_len (r := t) h1
        exact ih _ _ _ (by omega) (by omega) hw hv h
      by_cases hl : ws.length = 16
      · rw [spS_many (by omega) hl] at h; cases h
      by_cases h4 : knd x = 4
      · rw [spS_quote h4 hl] at h
        split at h
        · have := quo_len t
          exact ih _ _ _ (by omega) (by omega) (by rw [List.length_append, List.length_singleton]; omega) (more _ _ hv (by omega)) h
        · cases h
      · rw [spS_bare (by omega) hl] at h
        split at h
        · next he =>
          have := bare_len he h2
          have hj := congrArg List.length (bare_join (x :: t))
          rw [List.length_append, List.length_cons] at hj
          exact ih _ _ _ (by omega) (by omega) (by rw [List.length_append, List.length_singleton]; omega) (more _ _ hv (by omega)) h
        · cases h
theorem strs_empty {w : World} {q : Option Addr} : TxtIn w q 0 [] := ⟨rfl, fun h => absurd h (Nat.lt_irrefl _)⟩
set_option maxRecDepth 100000 in
set_option maxHeartbeats 8000000 in
theorem wordsOnce.walk (s : ByteArray) (w : World) (hg : Big w) : Calls Tryz.prog 5 #[.string s] w fun e w' => e = .returned (.bool true) ∧ Below w.heap.size w w' := by
  have HG := Lib.hid hg
  have HAl := Lib.hid (fun W (hb : Below w.heap.size w W) => alive_any W (big_on hg hb))
  clear hg
  by_cases h1000 : s.size ≤ 1000
  · have d1 : decide ((s.size : Int) > 1000) = false := decide_eq_false (by omega)
    have d2 : decide ((1000 : Int) < (s.size : Int)) = false := decide_eq_false (by omega)
    by_cases h256 : s.size ≤ 256
    · have HSp := Lib.hid (split_any s h256 w)
      cases hR : spS [] (nums s) with
      | bad r c =>
        rw [hR] at HSp
        have hcc := bad_code _ _ _ _ _ (Nat.le_refl _) hR
        have q0 : (c != 0) = true := by simp; omega
        clear h1000 h256 hR hcc
        go_enter Tryz.func5, Tryz.ntmps5
        go_wp2_with fail
        refine HSp.out.mono ?_
        rintro e w1 ⟨rfl, hb1⟩
        have HA1 := Lib.hid (HAl.out w1 hb1)
        have HB1 := Lib.hid hb1
        clear hb1
        go_wp2_with fail
        refine HA1.out.mono ?_
        rintro e w2 ⟨rfl, hb2⟩
        have HB2 := Lib.hid (seqB HB1.out hb2)
        clear hb2
        go_wp2_with fail
        go_ret
        exact ⟨rfl, HB2.out⟩
      | ok wl =>
        rw [hR] at HSp
        obtain ⟨ps, hps⟩ : ∃ ps, wl.map strOfNums = ps := ⟨_, rfl⟩
        have hpl : wl.length = ps.length := by rw [← hps, List.length_map]
        have hok := ok_words _ _ [] (nums s) wl (Nat.le_refl _) (Nat.le_refl _) (by decide) (fun v hv => by cases hv) hR
        have HWs := Lib.hid (show ps.length ≤ 16 from by rw [← hpl]; exact hok.1)
        have HWz := Lib.hid (show ∀ t ∈ ps, t.size ≤ maxLen from fun t ht => by
          rw [← hps] at ht
          obtain ⟨v, hv, rfl⟩ := List.mem_map.1 ht
          rw [str_size]
          have := hok.2 v hv
          rw [nums_length] at this
          unfold maxLen
          omega)
        clear hok
        clear hR h1000 h256
        go_enter Tryz.func5, Tryz.ntmps5
        go_wp2_with fail
        refine HSp.out.mono ?_
        rintro e w1 ⟨q, d, rfl, hs1, hb1⟩
        rw [hps, hpl] at hs1
        rw [hpl]
        have hT1 := hs1.txt
        have hd1 : ps.length ≤ 9223372036854775807 := by
          rcases Nat.eq_zero_or_pos ps.length with h | h
          · omega
          · obtain ⟨_, _, _, _, h3, h4⟩ := hs1.form h
            omega
        have hfew := HWs.out
        have HT1 := Lib.hid hT1
        have HB1 := Lib.hid hb1
        have HJ := Lib.hid (join_any q ps.length d ps w1 hd1 hT1 (fun t ht => HWz.out t ht))
        clear hs1 hb1 hT1 HSp
        go_wp2_with fail
        refine HJ.out.mono ?_
        rintro e w2 ⟨rfl, hb2⟩
        have HB2 := Lib.hid (seqB HB1.out hb2)
        have HT2 := Lib.hid (HT1.out.on hb2)
        clear hb2 HB1 HT1 HJ
        by_cases hj : joinW (ps.map nums) = []
        · have hjb : joinB ps = ⟨#[]⟩ := by unfold joinB; rw [hj]; rfl
          have HS2 := Lib.hid (split_any ⟨#[]⟩ (by decide) w2)
          rw [show spS [] (nums ⟨#[]⟩) = .ok [] from rfl] at HS2
          rw [hjb]
          clear hj hjb
          go_wp2_with fail
          refine HS2.out.mono ?_
          rintro e w3 ⟨q3, d3, rfl, hs3, hb3⟩
          have HB3 := Lib.hid (seqB HB2.out hb3)
          have HT3 := Lib.hid (HT2.out.on hb3)
          have HA3 := Lib.hid (HAl.out w3 HB3.out)
          have HM3 := Lib.hid hs3.txt
          clear hb3 hs3 HB2 HT2 HS2
          go_wp2_with fail
          refine HA3.out.mono ?_
          rintro e w4 ⟨rfl, hb4⟩
          have HB4 := Lib.hid (seqB HB3.out hb4)
          by_cases hp0 : ps.length = 0
          · have hps0 : ps = [] := List.length_eq_zero_iff.1 hp0
            subst hps0
            have HSm := Lib.hid (same_any q3 q 0 0 d3 d [] [] w4 (HM3.out.on hb4) (HT3.out.on hb4) (by decide) (by decide))
            rw [show decide (([] : List ByteArray) = []) = true from by simp] at HSm
            clear hb4 HB3 HT3 HM3 HA3
            go_wp2_with fail
            refine HSm.out.mono ?_
            rintro e w5 ⟨rfl, hb5⟩
            have HB5 := Lib.hid (seqB HB4.out hb5)
            clear hb5
            go_wp2_with fail
            go_ret
            exact ⟨rfl, HB5.out⟩
          · have e0 : decide ((ps.length : Int) > 0) = true := decide_eq_true (by omega)
            have e1 : decide ((0 : Int) < (ps.length : Int)) = true := decide_eq_true (by omega)
            have e2 : ¬ ps = [] := fun e => hp0 (by rw [e]; rfl)
            clear hb4 HB3 HT3 HM3 HA3
            go_wp2_with fail
            go_ret
            exact ⟨rfl, HB4.out⟩
        · have HS2 := Lib.hid (split_any (joinB ps) (joinB_size ps) w2)
          have hback := join_back (l := ps.map nums) (a := []) (b := []) hj (fun x hx => by cases hx) (fun x hx => by cases hx)
          rw [List.nil_append, List.append_nil, ← joinB_nums] at hback
          rw [hback] at HS2
          have hne : ¬ (joinB ps).size = 0 := fun e => hj (by
            rw [← joinB_nums]
            exact List.length_eq_zero_iff.1 (by rw [nums_length]; exact e))
          obtain ⟨J, hJ⟩ : ∃ J, joinB ps = J := ⟨_, rfl⟩
          rw [hJ] at HS2 hne ⊢
          have e0 : (J.toList == ([] : List UInt8)) = false := by simpa using size_ne hne
          have e1 : J.toList.isEmpty = false := by simpa using size_ne hne
          have e2 := size_ne hne
          have hml : (ps.map nums).length = ps.length := List.length_map ..
          clear hj hback hne hJ
          go_wp2_with fail
          refine HS2.out.mono ?_
          rintro e w3 ⟨q3, d3, rfl, hs3, hb3⟩
          rw [map_back, hml] at hs3
          rw [hml]
          have HB3 := Lib.hid (seqB HB2.out hb3)
          have HT3 := Lib.hid (HT2.out.on hb3)
          have HA3 := Lib.hid (HAl.out w3 HB3.out)
          have HM3 := Lib.hid hs3.txt
          clear hb3 hs3 HB2 HT2 HS2 hml
          go_wp2_with fail
          refine HA3.out.mono ?_
          rintro e w4 ⟨rfl, hb4⟩
          have HB4 := Lib.hid (seqB HB3.out hb4)
          have HSm := Lib.hid (same_any q3 q ps.length ps.length d3 d ps ps w4 (HM3.out.on hb4) (HT3.out.on hb4) (by omega) (by omega))
          rw [show decide (ps = ps) = true from by simp] at HSm
          clear hb4 HB3 HT3 HM3 HA3
          go_wp2_with fail
          refine HSm.out.mono ?_
          rintro e w5 ⟨rfl, hb5⟩
          have HB5 := Lib.hid (seqB HB4.out hb5)
          clear hb5
          go_wp2_with fail
          go_ret
          exact ⟨rfl, HB5.out⟩
    · have HSp := Lib.hid (split_long s h256 w)
      clear h1000 h256
      go_enter Tryz.func5, Tryz.ntmps5
      go_wp2_with fail
      refine HSp.out.mono ?_
      rintro e w1 ⟨rfl, rfl⟩
      have HA1 := Lib.hid (HAl.out w (Below.refl _ _))
      go_wp2_with fail
      refine HA1.out.mono ?_
      rintro e w2 ⟨rfl, hb2⟩
      have HB2 := Lib.hid hb2
      clear hb2
      go_wp2_with fail
      go_ret
      exact ⟨rfl, HB2.out⟩
  · have d1 : decide ((s.size : Int) > 1000) = true := decide_eq_true (by omega)
    have d2 : decide ((1000 : Int) < (s.size : Int)) = true := decide_eq_true (by omega)
    have HA1 := Lib.hid (HAl.out w (Below.refl _ _))
    clear h1000
    go_enter Tryz.func5, Tryz.ntmps5
    go_wp2_with fail
    refine HA1.out.mono ?_
    rintro e w2 ⟨rfl, hb2⟩
    have HB2 := Lib.hid hb2
    clear hb2
    go_wp2_with fail
    go_ret
    exact ⟨rfl, HB2.out⟩
end Go.Proofs.YtngnkkigjlenoaaGreatDoor

/-
  Contract: the document's own Join. Conditions: the words' lengths.
-/
import Derived.Test.YtngnkkigjlenoaaGreatDoorRest
namespace Go.Proofs.YtngnkkigjlenoaaGreatDoor
open Go.RowKit

theorem lin_most2 (l : List (List Int)) (h : ∀ w ∈ l, w.length ≤ 2000) : (linL l).length ≤ 4003 * l.length := by
  have key : ∀ (l : List (List Int)) (x : List Int), (∀ w ∈ l, w.length ≤ 2000) → (l.foldl addL x).length ≤ x.length + 4003 * l.length := fun l => by
    induction l with
    | nil => intro x _; exact Nat.le_refl _
    | cons w l ih =>
      intro x h
      rw [List.foldl_cons, List.length_cons]
      have h1 := ih (addL x w) fun v hv => h v (List.mem_cons_of_mem _ hv)
      have h2 := h w List.mem_cons_self
      have h3 := (add_len x w).2.2
      omega
  have := key l [] h
  rw [List.length_nil, Nat.zero_add] at this
  exact this
theorem lin_ne {l : List (List Int)} (h : l ≠ []) : linL l ≠ [] := by
  rw [← List.dropLast_concat_getLast h, lin_snoc]
  exact add_ne _ _
theorem esc_plain {w : List Int} (h : plainL w = true) : escL w = w := by
  have h' := (of_decide_eq_true h).2.2
  clear h
  induction w with
  | nil => rfl
  | cons c r ih =>
    have hc := h' c List.mem_cons_self
    unfold escL
    rw [if_neg (by omega), ih fun x hx => h' x (List.mem_cons_of_mem _ hx)]
theorem wrt_plain {w : List Int} (h : plainL w = true) : wrtL w = w := by unfold wrtL; rw [if_pos h]
theorem wrt_quoted {w : List Int} (h : plainL w = false) : wrtL w = 34 :: (escL w ++ [34]) := by unfold wrtL; rw [if_neg (by rw [h]; decide)]
set_option maxRecDepth 100000 in
set_option maxHeartbeats 16000000 in
theorem rjoin_any (q : Option Addr) (n d : Nat) (ps : List ByteArray) (w : World) (hi : TxtIn w q n ps) (hsz : n ≤ 16 → ∀ t ∈ ps, t.size ≤ 2000) :
    Calls Tryz.prog 12 #[.slice q n d] w fun e w' => e = .returned (.string (joinB ps)) ∧ Below w.heap.size w w' := by
  have hnot : ∀ (x : Bool) (w : World), (Op.unary .not (.bool x)).run Tryz.prog w = .ok (.bool (!x)) w := fun _ _ => rfl
  by_cases h16 : 16 < n
  · have d2 : (16 : Int) < (n : Int) := by omega
    have HE := Lib.hid (show joinB ps = ⟨#[]⟩ from by unfold joinB; rw [join_many (by rw [hi.1]; exact h16)]; rfl)
    clear h16 hi hsz
    go_enter Tryz.func12, Tryz.ntmps12
    go_wp2_with fail
    go_ret
    exact ⟨by rw [HE.out]; rfl, Below.refl _ _⟩
  · have d1 : decide ((n : Int) > 16) = false := decide_eq_false (by omega)
    have d2 : decide ((16 : Int) < (n : Int)) = false := decide_eq_false (by omega)
    have hn16 : n ≤ 16 := by omega
    have HI := Lib.hid hi
    have HS := Lib.hid (hsz hn16)
    clear h16 hi hsz
    go_enter Tryz.func12, Tryz.ntmps12
    go_wp2_with fail
    go_loopw [3, 4, 5, 6, 7] (fun u ii _ _ _ wr => ∃ i : Nat, i ≤ n ∧ ii = .int .i64 i ∧ u = .string (strOfNums (linL ((ps.take i).map nums))) ∧ Hid (∀ v ∈ (ps.take i).map nums, mayL v) ∧ Hid (Below w.heap.size w wr)) (fun _ ii _ _ _ _ => n - (intOf ii).toNat)
    case atStart => exact ⟨0, Nat.zero_le _, rfl, rfl, Lib.hid (fun v hv => by simp at hv), Lib.hid (Below.refl _ _)⟩
    case round =>
      obtain ⟨i, hin, rfl, rfl, HM, HB⟩ := hrel
      have hlk : (ps.take i).length = i := by rw [List.length_take, HI.out.1]; omega
      have hmost := lin_most2 ((ps.take i).map nums) (fun v hv => by
        obtain ⟨s, hs, rfl⟩ := List.mem_map.1 hv
        rw [nums_length]
        exact HS.out s (List.mem_of_mem_take hs))
      rw [List.length_map, hlk] at hmost
      obtain ⟨X, hX⟩ : ∃ X, strOfNums (linL ((ps.take i).map nums)) = X := ⟨_, rfl⟩
      have hXs : X.size ≤ 64048 := by rw [← hX, str_size]; omega
      have hXl : (linL ((ps.take i).map nums)).length ≤ 64048 := by omega
      have hall1 : AllB (linL ((ps.take i).map nums)) := lin_all _ fun v hv => by
        obtain ⟨s, _, rfl⟩ := List.mem_map.1 hv
        exact nums_all s
      rw [hX]
      by_cases hlt : i < n
      · have d3 : decide ((i : Int) < (n : Int)) = true := decide_eq_true (by omega)
        obtain ⟨b, o, rfl, hc⟩ := HI.out.2 (by omega)
        have hip : i < ps.length := by rw [HI.out.1]; exact hlt
        have HC := Lib.hid (hc i hlt)
        have HLt := Lib.hid (World.block_lt_of_cell? w _ (hc i hlt))
        have c0 := (HB.out.cell HLt.out).trans HC.out
        have hts := HS.out _ (getD_mem hip)
        have HMem := Lib.hid (List.mem_map_of_mem (f := nums) (getD_mem hip))
        have hst : linL ((ps.take (i + 1)).map nums) = addL (linL ((ps.take i).map nums)) (nums (ps.getD i ⟨#[]⟩)) := by
          rw [List.take_succ_eq_append_getElem hip, List.map_append, List.map_singleton, lin_snoc, List.getD_eq_getElem?_getD, List.getElem?_eq_getElem hip]
          rfl
        have HAM := Lib.hid (fun (h : mayL (nums (ps.getD i ⟨#[]⟩))) => show ∀ v ∈ (ps.take (i + 1)).map nums, mayL v from fun v hv => by
          rw [List.take_succ_eq_append_getElem hip, List.map_append] at hv
          rcases List.mem_append.1 hv with hv | hv
          · exact HM.out v hv
          · rw [List.getD_eq_getElem?_getD, List.getElem?_eq_getElem hip] at h
            rw [List.map_singleton] at hv
            rw [List.mem_singleton.1 hv]
            exact h)
        have hpl0 : (ps.getD i ⟨#[]⟩).size ≤ maxLen := by unfold maxLen; omega
        have HPl := Lib.hid (fun W => rplain_any (ps.getD i ⟨#[]⟩) hpl0 W)
        generalize ps.getD i ⟨#[]⟩ = t at *
        clear hc hip hpl0
        by_cases hi0 : i = 0
        · by_cases hpl : plainL (nums t) = true
          · skip
            subst hi0
            have HC0 := HC.out
            rw [Nat.add_zero] at c0 HC0
            replace HC := Lib.hid HC0
            clear HC0
            have hX0 : X = ⟨#[]⟩ := by rw [← hX]; rfl
            obtain ⟨p1, hp1⟩ : ∃ p1 : List Int, ([] : List Int) = p1 := ⟨_, rfl⟩
            obtain ⟨O1, hO1⟩ : ∃ O1, (⟨#[]⟩ : ByteArray) ++ (⟨#[]⟩ : ByteArray) = O1 := ⟨_, rfl⟩
            have HO1 := Lib.hid (show O1 = strOfNums p1 from by rw [← hO1, ← hp1]; rfl)
            have rB := fun W => cat_run hO1 (by show 0 ≤ _; omega) (by show _ ≤ 1100000; decide) W
            have HPre := Lib.hid (show linL ((ps.take (0 + 1)).map nums) = ([] : List Int) ++ wrtL (nums t) from by rw [hst]; unfold addL; rfl)
            have hp1l : p1.length ≤ 70001 := by rw [← hp1]; decide
            have hp1a : AllB p1 := by rw [← hp1]; exact fun x hx => by simp at hx
            subst hX0
            have HP1 := Lib.hid hp1
            have HEnd := Lib.hid (show p1 ++ escL (nums t) ++ ([] : List Int) = linL ((ps.take (0 + 1)).map nums) from by
              rw [HPre.out, ← hp1]
              rw [esc_plain hpl, wrt_plain hpl]; simp)
            have hpv := hpl
            rw [hpv] at HPl
            clear hst hpv hpl hX hO1 hp1 HPre
            go_wp2_with fail
            refine (HPl.out _).mono ?_
            rintro e wp ⟨rfl, rfl⟩
            go_wp2_with fail
            obtain ⟨wo, hwo⟩ : ∃ wo, wo = wr := ⟨_, rfl⟩
            subst hwo
            have HB0 := Lib.hid (show Below w.heap.size w wo from HB.out)
            clear HB
            go_loopw [3, 6, 7] (fun u kk _ wr => ∃ k : Nat, k ≤ t.size ∧ kk = .int .i64 k ∧ u = .string (strOfNums (p1 ++ escL ((nums t).take k))) ∧ Hid (mayL ((nums t).take k)) ∧ Hid (Below w.heap.size w wr)) (fun _ kk _ _ => t.size - (intOf kk).toNat)
            case atStart => exact ⟨0, Nat.zero_le _, rfl, by rw [HO1.out]; simp [escL], Lib.hid (fun x hx => by simp at hx), HB0⟩
            case round =>
              clear HB0
              obtain ⟨k, hk, rfl, rfl, HMy, HB⟩ := hrel
              have c1 := (HB.out.cell HLt.out).trans HC.out
              have hek := esc_len ((nums t).take k)
              rw [List.length_take, nums_length] at hek
              obtain ⟨O, hO⟩ : ∃ O, strOfNums (p1 ++ escL ((nums t).take k)) = O := ⟨_, rfl⟩
              have hOs : O.size ≤ 75001 := by rw [← hO, str_size, List.length_append]; omega
              rw [hO]
              by_cases hkt : k < t.size
              · have d9 : decide ((k : Int) < (t.size : Int)) = true := decide_eq_true (by omega)
                have hx := nums_at t k hkt
                have hcb := allB_getD (nums_all t) k
                have hes := esc_take (xs := nums t) (k := k) (by rw [nums_length]; exact hkt)
                have HMt := Lib.hid (fun h => may_take HMy.out (by rw [nums_length]; exact hkt) h)
                have HBad := Lib.hid (fun (h : knd ((nums t).getD k 0) = 1) => show joinB ps = ⟨#[]⟩ from by
                  unfold joinB
                  rw [show joinW (ps.map nums) = [] from if_pos (Or.inr (Or.inl ⟨nums t, HMem.out, fun hm => hm _ (by
                    rw [List.getD_eq_getElem?_getD, List.getElem?_eq_getElem (by rw [nums_length]; exact hkt)]
                    exact List.getElem_mem _) h⟩))]
                  rfl)
                obtain ⟨c, hcc⟩ : ∃ c, (nums t).getD k 0 = c := ⟨_, rfl⟩
                rw [hcc] at hx hcb hes HMt HBad
                have HMa := Lib.hid (may_any c wr)
                have hwk : IntKind.i64.wrap ((k : Int) + 1) = (k : Int) + 1 := IntWalk.i64_in _ (by omega)
                clear hcc
                by_cases hod : knd c = 1
                · have HE := Lib.hid (HBad.out hod)
                  rw [show decide (knd c ≠ 1) = false from decide_eq_false (fun h => h hod)] at HMa
                  clear HBad hod hes HMt HMy hek hO
                  go_wp2_with fail
                  refine HMa.out.mono ?_
                  rintro e wm ⟨rfl, rfl⟩
                  go_wp2_with fail
                  go_ret
                  exact ⟨by rw [HE.out]; rfl, HB.out⟩
                · have HM2 := Lib.hid (HMt.out hod)
                  rw [show decide (knd c ≠ 1) = true from decide_eq_true hod] at HMa
                  by_cases hsg : c = 34 ∨ c = 92
                  · rw [if_pos hsg] at hes
                    obtain ⟨O2, hO2⟩ : ∃ O2, O ++ strOfNums [92] = O2 := ⟨_, rfl⟩
                    have hO2s : O2.size ≤ 75002 := by rw [← hO2, cat_size, str_size]; simp; omega
                    obtain ⟨O3, hO3⟩ : ∃ O3, O2 ++ strOfNums [c] = O3 := ⟨_, rfl⟩
                    have q1 := fun W => cat_run hO2 (by omega) (by rw [str_size]; simp) W
                    have q2 := fun W => cat_run hO3 (by omega) (by rw [str_size]; simp) W
                    have HO3 := Lib.hid (show O3 = strOfNums (p1 ++ escL ((nums t).take (k + 1))) from by
                      rw [hes, ← hO3, ← hO2, ← hO, str_append, str_append, List.append_assoc, List.append_assoc]
                      rfl)
                    have hcv1 := conv_bytes (made_one wr 92) rfl 1
                    have hcv2 := conv_bytes (made_one (wr.alloc (.cells #[.int .u8 92] 5)) c) rfl 1
                    rw [show (wr.alloc (.cells #[.int .u8 92] 5)).heap.size = wr.heap.size + 1 by simp] at hcv2
                    have HB2 := Lib.hid (show Below w.heap.size w ((wr.alloc (.cells #[.int .u8 92] 5)).alloc (.cells #[.int .u8 c] 5)) from (HB.out.alloc HB.out.size _).alloc (by simp; have := HB.out.size; omega) _)
                    clear HBad hod hes HMt HMy hek hO hO2 hO3 hO2s HB
                    rcases hsg with rfl | rfl
                    · go_wp2_with fail
                      refine HMa.out.mono ?_
                      rintro e wm ⟨rfl, rfl⟩
                      go_wp2_with fail
                      go_roundw
                      case rel => exact ⟨k + 1, by omega, by go_num, by rw [HO3.out], HM2, HB2⟩
                      case measure => simp [intOf]; omega
                    · go_wp2_with fail
                      refine HMa.out.mono ?_
                      rintro e wm ⟨rfl, rfl⟩
                      go_wp2_with fail
                      go_roundw
                      case rel => exact ⟨k + 1, by omega, by go_num, by rw [HO3.out], HM2, HB2⟩
                      case measure => simp [intOf]; omega
                  · rw [if_neg hsg] at hes
                    obtain ⟨O3, hO3⟩ : ∃ O3, O ++ strOfNums [c] = O3 := ⟨_, rfl⟩
                    have q2 := fun W => cat_run hO3 (by omega) (by rw [str_size]; simp) W
                    have HO3 := Lib.hid (show O3 = strOfNums (p1 ++ escL ((nums t).take (k + 1))) from by
                      rw [hes, ← hO3, ← hO, str_append, List.append_assoc])
                    have hcv1 := conv_bytes (made_one wr c) rfl 1
                    have HB2 := Lib.hid (show Below w.heap.size w (wr.alloc (.cells #[.int .u8 c] 5)) from HB.out.alloc HB.out.size _)
                    have s1 : (c == 34) = false := by simp; omega
                    have s2 : (c == 92) = false := by simp; omega
                    clear HBad hod hes HMt HMy hek hO hO3 HB hsg
                    go_wp2_with fail
                    refine HMa.out.mono ?_
                    rintro e wm ⟨rfl, rfl⟩
                    go_wp2_with fail
                    go_roundw
                    case rel => exact ⟨k + 1, by omega, by go_num, by rw [HO3.out], HM2, HB2⟩
                    case measure => simp [intOf]; omega
              · obtain rfl : k = t.size := by omega
                have d9 : decide ((t.size : Int) < (t.size : Int)) = false := by simp
                have hmy := HMy.out
                rw [← nums_length t, List.take_length] at hmy hO
                obtain ⟨O3, hO3⟩ : ∃ O3, O ++ (⟨#[]⟩ : ByteArray) = O3 := ⟨_, rfl⟩
                have q3 := fun W => cat_run hO3 (by omega) (by show _ ≤ 1100000; decide) W
                have HO3 := Lib.hid (show O3 = strOfNums (linL ((ps.take (0 + 1)).map nums)) from by
                  rw [← HEnd.out, ← hO3, ← hO]
                  show strOfNums (p1 ++ escL (nums t)) ++ strOfNums ([] : List Int) = _
                  rw [str_append])
                have HAll2 := Lib.hid (HAM.out hmy)
                have hwi : IntKind.i64.wrap ((0 : Int) + 1) = (0 : Int) + 1 := IntWalk.i64_in _ (by omega)
                clear hmy hO hO3 HMy hek hkt
                go_wp2_with fail
                go_roundw
                case rel => exact ⟨0 + 1, by omega, by go_num, by rw [HO3.out], HAll2, HB⟩
                case measure => simp [intOf]; omega
          · replace hpl : plainL (nums t) = false := by simpa using hpl
            subst hi0
            have HC0 := HC.out
            rw [Nat.add_zero] at c0 HC0
            replace HC := Lib.hid HC0
            clear HC0
            have hX0 : X = ⟨#[]⟩ := by rw [← hX]; rfl
            obtain ⟨p1, hp1⟩ : ∃ p1 : List Int, [34] = p1 := ⟨_, rfl⟩
            obtain ⟨O1, hO1⟩ : ∃ O1, (⟨#[]⟩ : ByteArray) ++ (strOfNums [34]) = O1 := ⟨_, rfl⟩
            have HO1 := Lib.hid (show O1 = strOfNums p1 from by rw [← hO1, ← hp1]; rfl)
            have rB := fun W => cat_run hO1 (by show 0 ≤ _; omega) (by show _ ≤ 1100000; decide) W
            have HPre := Lib.hid (show linL ((ps.take (0 + 1)).map nums) = ([] : List Int) ++ wrtL (nums t) from by rw [hst]; unfold addL; rfl)
            have hp1l : p1.length ≤ 70001 := by rw [← hp1]; decide
            have hp1a : AllB p1 := by rw [← hp1]; exact fun x hx => by simp at hx; subst hx; decide
            subst hX0
            have HP1 := Lib.hid hp1
            have HEnd := Lib.hid (show p1 ++ escL (nums t) ++ [34] = linL ((ps.take (0 + 1)).map nums) from by
              rw [HPre.out, ← hp1]
              rw [wrt_quoted hpl]; simp)
            have hpv := hpl
            rw [hpv] at HPl
            have hcv0 := conv_bytes (made_one wr 34) rfl 1
            clear hst hpv hpl hX hO1 hp1 HPre
            go_wp2_with fail
            refine (HPl.out _).mono ?_
            rintro e wp ⟨rfl, rfl⟩
            go_wp2_with fail
            obtain ⟨wo, hwo⟩ : ∃ wo, wo = wr := ⟨_, rfl⟩
            subst hwo
            have HB0 := Lib.hid (show Below w.heap.size w (wo.alloc (.cells #[.int .u8 34] 5)) from HB.out.alloc HB.out.size _)
            clear HB
            go_loopw [3, 6, 7] (fun u kk _ wr => ∃ k : Nat, k ≤ t.size ∧ kk = .int .i64 k ∧ u = .string (strOfNums (p1 ++ escL ((nums t).take k))) ∧ Hid (mayL ((nums t).take k)) ∧ Hid (Below w.heap.size w wr)) (fun _ kk _ _ => t.size - (intOf kk).toNat)
            case atStart => exact ⟨0, Nat.zero_le _, rfl, by rw [HO1.out]; simp [escL], Lib.hid (fun x hx => by simp at hx), HB0⟩
            case round =>
              clear HB0
              obtain ⟨k, hk, rfl, rfl, HMy, HB⟩ := hrel
              have c1 := (HB.out.cell HLt.out).trans HC.out
              have hek := esc_len ((nums t).take k)
              rw [List.length_take, nums_length] at hek
              obtain ⟨O, hO⟩ : ∃ O, strOfNums (p1 ++ escL ((nums t).take k)) = O := ⟨_, rfl⟩
              have hOs : O.size ≤ 75001 := by rw [← hO, str_size, List.length_append]; omega
              rw [hO]
              by_cases hkt : k < t.size
              · have d9 : decide ((k : Int) < (t.size : Int)) = true := decide_eq_true (by omega)
                have hx := nums_at t k hkt
                have hcb := allB_getD (nums_all t) k
                have hes := esc_take (xs := nums t) (k := k) (by rw [nums_length]; exact hkt)
                have HMt := Lib.hid (fun h => may_take HMy.out (by rw [nums_length]; exact hkt) h)
                have HBad := Lib.hid (fun (h : knd ((nums t).getD k 0) = 1) => show joinB ps = ⟨#[]⟩ from by
                  unfold joinB
                  rw [show joinW (ps.map nums) = [] from if_pos (Or.inr (Or.inl ⟨nums t, HMem.out, fun hm => hm _ (by
                    rw [List.getD_eq_getElem?_getD, List.getElem?_eq_getElem (by rw [nums_length]; exact hkt)]
                    exact List.getElem_mem _) h⟩))]
                  rfl)
                obtain ⟨c, hcc⟩ : ∃ c, (nums t).getD k 0 = c := ⟨_, rfl⟩
                rw [hcc] at hx hcb hes HMt HBad
                have HMa := Lib.hid (may_any c wr)
                have hwk : IntKind.i64.wrap ((k : Int) + 1) = (k : Int) + 1 := IntWalk.i64_in _ (by omega)
                clear hcc
                by_cases hod : knd c = 1
                · have HE := Lib.hid (HBad.out hod)
                  rw [show decide (knd c ≠ 1) = false from decide_eq_false (fun h => h hod)] at HMa
                  clear HBad hod hes HMt HMy hek hO
                  go_wp2_with fail
                  refine HMa.out.mono ?_
                  rintro e wm ⟨rfl, rfl⟩
                  go_wp2_with fail
                  go_ret
                  exact ⟨by rw [HE.out]; rfl, HB.out⟩
                · have HM2 := Lib.hid (HMt.out hod)
                  rw [show decide (knd c ≠ 1) = true from decide_eq_true hod] at HMa
                  by_cases hsg : c = 34 ∨ c = 92
                  · rw [if_pos hsg] at hes
                    obtain ⟨O2, hO2⟩ : ∃ O2, O ++ strOfNums [92] = O2 := ⟨_, rfl⟩
                    have hO2s : O2.size ≤ 75002 := by rw [← hO2, cat_size, str_size]; simp; omega
                    obtain ⟨O3, hO3⟩ : ∃ O3, O2 ++ strOfNums [c] = O3 := ⟨_, rfl⟩
                    have q1 := fun W => cat_run hO2 (by omega) (by rw [str_size]; simp) W
                    have q2 := fun W => cat_run hO3 (by omega) (by rw [str_size]; simp) W
                    have HO3 := Lib.hid (show O3 = strOfNums (p1 ++ escL ((nums t).take (k + 1))) from by
                      rw [hes, ← hO3, ← hO2, ← hO, str_append, str_append, List.append_assoc, List.append_assoc]
                      rfl)
                    have hcv1 := conv_bytes (made_one wr 92) rfl 1
                    have hcv2 := conv_bytes (made_one (wr.alloc (.cells #[.int .u8 92] 5)) c) rfl 1
                    rw [show (wr.alloc (.cells #[.int .u8 92] 5)).heap.size = wr.heap.size + 1 by simp] at hcv2
                    have HB2 := Lib.hid (show Below w.heap.size w ((wr.alloc (.cells #[.int .u8 92] 5)).alloc (.cells #[.int .u8 c] 5)) from (HB.out.alloc HB.out.size _).alloc (by simp; have := HB.out.size; omega) _)
                    clear HBad hod hes HMt HMy hek hO hO2 hO3 hO2s HB
                    rcases hsg with rfl | rfl
                    · go_wp2_with fail
                      refine HMa.out.mono ?_
                      rintro e wm ⟨rfl, rfl⟩
                      go_wp2_with fail
                      go_roundw
                      case rel => exact ⟨k + 1, by omega, by go_num, by rw [HO3.out], HM2, HB2⟩
                      case measure => simp [intOf]; omega
                    · go_wp2_with fail
                      refine HMa.out.mono ?_
                      rintro e wm ⟨rfl, rfl⟩
                      go_wp2_with fail
                      go_roundw
                      case rel => exact ⟨k + 1, by omega, by go_num, by rw [HO3.out], HM2, HB2⟩
                      case measure => simp [intOf]; omega
                  · rw [if_neg hsg] at hes
                    obtain ⟨O3, hO3⟩ : ∃ O3, O ++ strOfNums [c] = O3 := ⟨_, rfl⟩
                    have q2 := fun W => cat_run hO3 (by omega) (by rw [str_size]; simp) W
                    have HO3 := Lib.hid (show O3 = strOfNums (p1 ++ escL ((nums t).take (k + 1))) from by
                      rw [hes, ← hO3, ← hO, str_append, List.append_assoc])
                    have hcv1 := conv_bytes (made_one wr c) rfl 1
                    have HB2 := Lib.hid (show Below w.heap.size w (wr.alloc (.cells #[.int .u8 c] 5)) from HB.out.alloc HB.out.size _)
                    have s1 : (c == 34) = false := by simp; omega
                    have s2 : (c == 92) = false := by simp; omega
                    clear HBad hod hes HMt HMy hek hO hO3 HB hsg
                    go_wp2_with fail
                    refine HMa.out.mono ?_
                    rintro e wm ⟨rfl, rfl⟩
                    go_wp2_with fail
                    go_roundw
                    case rel => exact ⟨k + 1, by omega, by go_num, by rw [HO3.out], HM2, HB2⟩
                    case measure => simp [intOf]; omega
              · obtain rfl : k = t.size := by omega
                have d9 : decide ((t.size : Int) < (t.size : Int)) = false := by simp
                have hmy := HMy.out
                rw [← nums_length t, List.take_length] at hmy hO
                obtain ⟨O3, hO3⟩ : ∃ O3, O ++ (strOfNums [34]) = O3 := ⟨_, rfl⟩
                have q3 := fun W => cat_run hO3 (by omega) (by show _ ≤ 1100000; decide) W
                have HO3 := Lib.hid (show O3 = strOfNums (linL ((ps.take (0 + 1)).map nums)) from by
                  rw [← HEnd.out, ← hO3, ← hO]
                  show strOfNums (p1 ++ escL (nums t)) ++ strOfNums [34] = _
                  rw [str_append])
                have HAll2 := Lib.hid (HAM.out hmy)
                have hwi : IntKind.i64.wrap ((0 : Int) + 1) = (0 : Int) + 1 := IntWalk.i64_in _ (by omega)
                clear hmy hO hO3 HMy hek hkt
                go_wp2_with fail
                go_roundw
                case rel => exact ⟨0 + 1, by omega, by go_num, by rw [HO3.out], HAll2, HB⟩
                case measure => simp [intOf]; omega
        · by_cases hpl : plainL (nums t) = true
          · skip
            have d7 : decide ((i : Int) > 0) = true := decide_eq_true (by omega)
            have d8 : decide ((0 : Int) < (i : Int)) = true := decide_eq_true (by omega)
            obtain ⟨PX, hPX⟩ : ∃ PX, X ++ (⟨#[32]⟩ : ByteArray) = PX := ⟨_, rfl⟩
            have hPXs : PX.size ≤ 70000 := by rw [← hPX, cat_size]; show X.size + 1 ≤ _; omega
            have rA := fun W => cat_run hPX (by omega) (by show 1 ≤ _; omega) W
            obtain ⟨p1, hp1⟩ : ∃ p1 : List Int, (linL ((ps.take i).map nums) ++ [32]) ++ ([] : List Int) = p1 := ⟨_, rfl⟩
            obtain ⟨O1, hO1⟩ : ∃ O1, PX ++ (⟨#[]⟩ : ByteArray) = O1 := ⟨_, rfl⟩
            have HO1 := Lib.hid (show O1 = strOfNums p1 from by
              rw [← hO1, ← hPX, ← hX, ← hp1, ← str_append, ← str_append]
              rfl)
            have rB := fun W => cat_run hO1 (by omega) (by show _ ≤ 1100000; decide) W
            have HPre := Lib.hid (show linL ((ps.take (i + 1)).map nums) = (linL ((ps.take i).map nums) ++ [32]) ++ wrtL (nums t) from by
              rw [hst]
              unfold addL
              rw [if_neg (lin_ne (by
                intro e
                have := congrArg List.length e
                rw [List.length_map, hlk] at this
                simp at this
                omega))])
            have hp1l : p1.length ≤ 70001 := by
              rw [← hp1]
              simp only [List.length_append, List.length_cons, List.length_nil]
              omega
            have hp1a : AllB p1 := by
              rw [← hp1]
              exact (hall1.append (fun y hy => by rw [List.mem_singleton.1 hy]; decide)).append (fun x hx => by simp at hx)
            have HP1 := Lib.hid hp1
            have HEnd := Lib.hid (show p1 ++ escL (nums t) ++ ([] : List Int) = linL ((ps.take (i + 1)).map nums) from by
              rw [HPre.out, ← hp1]
              rw [esc_plain hpl, wrt_plain hpl]; simp)
            have hpv := hpl
            rw [hpv] at HPl
            clear hst hpv hpl hX hO1 hp1 HPre hPX hPXs
            go_wp2_with fail
            refine (HPl.out _).mono ?_
            rintro e wp ⟨rfl, rfl⟩
            go_wp2_with fail
            obtain ⟨wo, hwo⟩ : ∃ wo, wo = wr := ⟨_, rfl⟩
            subst hwo
            have HB0 := Lib.hid (show Below w.heap.size w wo from HB.out)
            clear HB
            go_loopw [3, 6, 7] (fun u kk _ wr => ∃ k : Nat, k ≤ t.size ∧ kk = .int .i64 k ∧ u = .string (strOfNums (p1 ++ escL ((nums t).take k))) ∧ Hid (mayL ((nums t).take k)) ∧ Hid (Below w.heap.size w wr)) (fun _ kk _ _ => t.size - (intOf kk).toNat)
            case atStart => exact ⟨0, Nat.zero_le _, rfl, by rw [HO1.out]; simp [escL], Lib.hid (fun x hx => by simp at hx), HB0⟩
            case round =>
              clear HB0
              obtain ⟨k, hk, rfl, rfl, HMy, HB⟩ := hrel
              have c1 := (HB.out.cell HLt.out).trans HC.out
              have hek := esc_len ((nums t).take k)
              rw [List.length_take, nums_length] at hek
              obtain ⟨O, hO⟩ : ∃ O, strOfNums (p1 ++ escL ((nums t).take k)) = O := ⟨_, rfl⟩
              have hOs : O.size ≤ 75001 := by rw [← hO, str_size, List.length_append]; omega
              rw [hO]
              by_cases hkt : k < t.size
              · have d9 : decide ((k : Int) < (t.size : Int)) = true := decide_eq_true (by omega)
                have hx := nums_at t k hkt
                have hcb := allB_getD (nums_all t) k
                have hes := esc_take (xs := nums t) (k := k) (by rw [nums_length]; exact hkt)
                have HMt := Lib.hid (fun h => may_take HMy.out (by rw [nums_length]; exact hkt) h)
                have HBad := Lib.hid (fun (h : knd ((nums t).getD k 0) = 1) => show joinB ps = ⟨#[]⟩ from by
                  unfold joinB
                  rw [show joinW (ps.map nums) = [] from if_pos (Or.inr (Or.inl ⟨nums t, HMem.out, fun hm => hm _ (by
                    rw [List.getD_eq_getElem?_getD, List.getElem?_eq_getElem (by rw [nums_length]; exact hkt)]
                    exact List.getElem_mem _) h⟩))]
                  rfl)
                obtain ⟨c, hcc⟩ : ∃ c, (nums t).getD k 0 = c := ⟨_, rfl⟩
                rw [hcc] at hx hcb hes HMt HBad
                have HMa := Lib.hid (may_any c wr)
                have hwk : IntKind.i64.wrap ((k : Int) + 1) = (k : Int) + 1 := IntWalk.i64_in _ (by omega)
                clear hcc
                by_cases hod : knd c = 1
                · have HE := Lib.hid (HBad.out hod)
                  rw [show decide (knd c ≠ 1) = false from decide_eq_false (fun h => h hod)] at HMa
                  clear HBad hod hes HMt HMy hek hO
                  go_wp2_with fail
                  refine HMa.out.mono ?_
                  rintro e wm ⟨rfl, rfl⟩
                  go_wp2_with fail
                  go_ret
                  exact ⟨by rw [HE.out]; rfl, HB.out⟩
                · have HM2 := Lib.hid (HMt.out hod)
                  rw [show decide (knd c ≠ 1) = true from decide_eq_true hod] at HMa
                  by_cases hsg : c = 34 ∨ c = 92
                  · rw [if_pos hsg] at hes
                    obtain ⟨O2, hO2⟩ : ∃ O2, O ++ strOfNums [92] = O2 := ⟨_, rfl⟩
                    have hO2s : O2.size ≤ 75002 := by rw [← hO2, cat_size, str_size]; simp; omega
                    obtain ⟨O3, hO3⟩ : ∃ O3, O2 ++ strOfNums [c] = O3 := ⟨_, rfl⟩
                    have q1 := fun W => cat_run hO2 (by omega) (by rw [str_size]; simp) W
                    have q2 := fun W => cat_run hO3 (by omega) (by rw [str_size]; simp) W
                    have HO3 := Lib.hid (show O3 = strOfNums (p1 ++ escL ((nums t).take (k + 1))) from by
                      rw [hes, ← hO3, ← hO2, ← hO, str_append, str_append, List.append_assoc, List.append_assoc]
                      rfl)
                    have hcv1 := conv_bytes (made_one wr 92) rfl 1
                    have hcv2 := conv_bytes (made_one (wr.alloc (.cells #[.int .u8 92] 5)) c) rfl 1
                    rw [show (wr.alloc (.cells #[.int .u8 92] 5)).heap.size = wr.heap.size + 1 by simp] at hcv2
                    have HB2 := Lib.hid (show Below w.heap.size w ((wr.alloc (.cells #[.int .u8 92] 5)).alloc (.cells #[.int .u8 c] 5)) from (HB.out.alloc HB.out.size _).alloc (by simp; have := HB.out.size; omega) _)
                    clear HBad hod hes HMt HMy hek hO hO2 hO3 hO2s HB
                    rcases hsg with rfl | rfl
                    · go_wp2_with fail
                      refine HMa.out.mono ?_
                      rintro e wm ⟨rfl, rfl⟩
                      go_wp2_with fail
                      go_roundw
                      case rel => exact ⟨k + 1, by omega, by go_num, by rw [HO3.out], HM2, HB2⟩
                      case measure => simp [intOf]; omega
                    · go_wp2_with fail
                      refine HMa.out.mono ?_
                      rintro e wm ⟨rfl, rfl⟩
                      go_wp2_with fail
                      go_roundw
                      case rel => exact ⟨k + 1, by omega, by go_num, by rw [HO3.out], HM2, HB2⟩
                      case measure => simp [intOf]; omega
                  · rw [if_neg hsg] at hes
                    obtain ⟨O3, hO3⟩ : ∃ O3, O ++ strOfNums [c] = O3 := ⟨_, rfl⟩
                    have q2 := fun W => cat_run hO3 (by omega) (by rw [str_size]; simp) W
                    have HO3 := Lib.hid (show O3 = strOfNums (p1 ++ escL ((nums t).take (k + 1))) from by
                      rw [hes, ← hO3, ← hO, str_append, List.append_assoc])
                    have hcv1 := conv_bytes (made_one wr c) rfl 1
                    have HB2 := Lib.hid (show Below w.heap.size w (wr.alloc (.cells #[.int .u8 c] 5)) from HB.out.alloc HB.out.size _)
                    have s1 : (c == 34) = false := by simp; omega
                    have s2 : (c == 92) = false := by simp; omega
                    clear HBad hod hes HMt HMy hek hO hO3 HB hsg
                    go_wp2_with fail
                    refine HMa.out.mono ?_
                    rintro e wm ⟨rfl, rfl⟩
                    go_wp2_with fail
                    go_roundw
                    case rel => exact ⟨k + 1, by omega, by go_num, by rw [HO3.out], HM2, HB2⟩
                    case measure => simp [intOf]; omega
              · obtain rfl : k = t.size := by omega
                have d9 : decide ((t.size : Int) < (t.size : Int)) = false := by simp
                have hmy := HMy.out
                rw [← nums_length t, List.take_length] at hmy hO
                obtain ⟨O3, hO3⟩ : ∃ O3, O ++ (⟨#[]⟩ : ByteArray) = O3 := ⟨_, rfl⟩
                have q3 := fun W => cat_run hO3 (by omega) (by show _ ≤ 1100000; decide) W
                have HO3 := Lib.hid (show O3 = strOfNums (linL ((ps.take (i + 1)).map nums)) from by
                  rw [← HEnd.out, ← hO3, ← hO]
                  show strOfNums (p1 ++ escL (nums t)) ++ strOfNums ([] : List Int) = _
                  rw [str_append])
                have HAll2 := Lib.hid (HAM.out hmy)
                have hwi : IntKind.i64.wrap ((i : Int) + 1) = (i : Int) + 1 := IntWalk.i64_in _ (by omega)
                clear hmy hO hO3 HMy hek hkt
                go_wp2_with fail
                go_roundw
                case rel => exact ⟨i + 1, by omega, by go_num, by rw [HO3.out], HAll2, HB⟩
                case measure => simp [intOf]; omega
          · replace hpl : plainL (nums t) = false := by simpa using hpl
            have d7 : decide ((i : Int) > 0) = true := decide_eq_true (by omega)
            have d8 : decide ((0 : Int) < (i : Int)) = true := decide_eq_true (by omega)
            obtain ⟨PX, hPX⟩ : ∃ PX, X ++ (⟨#[32]⟩ : ByteArray) = PX := ⟨_, rfl⟩
            have hPXs : PX.size ≤ 70000 := by rw [← hPX, cat_size]; show X.size + 1 ≤ _; omega
            have rA := fun W => cat_run hPX (by omega) (by show 1 ≤ _; omega) W
            obtain ⟨p1, hp1⟩ : ∃ p1 : List Int, (linL ((ps.take i).map nums) ++ [32]) ++ [34] = p1 := ⟨_, rfl⟩
            obtain ⟨O1, hO1⟩ : ∃ O1, PX ++ (strOfNums [34]) = O1 := ⟨_, rfl⟩
            have HO1 := Lib.hid (show O1 = strOfNums p1 from by
              rw [← hO1, ← hPX, ← hX, ← hp1, ← str_append, ← str_append]
              rfl)
            have rB := fun W => cat_run hO1 (by omega) (by show _ ≤ 1100000; decide) W
            have HPre := Lib.hid (show linL ((ps.take (i + 1)).map nums) = (linL ((ps.take i).map nums) ++ [32]) ++ wrtL (nums t) from by
              rw [hst]
              unfold addL
              rw [if_neg (lin_ne (by
                intro e
                have := congrArg List.length e
                rw [List.length_map, hlk] at this
                simp at this
                omega))])
            have hp1l : p1.length ≤ 70001 := by
              rw [← hp1]
              simp only [List.length_append, List.length_cons, List.length_nil]
              omega
            have hp1a : AllB p1 := by
              rw [← hp1]
              exact (hall1.append (fun y hy => by rw [List.mem_singleton.1 hy]; decide)).append (fun x hx => by simp at hx; subst hx; decide)
            have HP1 := Lib.hid hp1
            have HEnd := Lib.hid (show p1 ++ escL (nums t) ++ [34] = linL ((ps.take (i + 1)).map nums) from by
              rw [HPre.out, ← hp1]
              rw [wrt_quoted hpl]; simp)
            have hpv := hpl
            rw [hpv] at HPl
            have hcv0 := conv_bytes (made_one wr 34) rfl 1
            clear hst hpv hpl hX hO1 hp1 HPre hPX hPXs
            go_wp2_with fail
            refine (HPl.out _).mono ?_
            rintro e wp ⟨rfl, rfl⟩
            go_wp2_with fail
            obtain ⟨wo, hwo⟩ : ∃ wo, wo = wr := ⟨_, rfl⟩
            subst hwo
            have HB0 := Lib.hid (show Below w.heap.size w (wo.alloc (.cells #[.int .u8 34] 5)) from HB.out.alloc HB.out.size _)
            clear HB
            go_loopw [3, 6, 7] (fun u kk _ wr => ∃ k : Nat, k ≤ t.size ∧ kk = .int .i64 k ∧ u = .string (strOfNums (p1 ++ escL ((nums t).take k))) ∧ Hid (mayL ((nums t).take k)) ∧ Hid (Below w.heap.size w wr)) (fun _ kk _ _ => t.size - (intOf kk).toNat)
            case atStart => exact ⟨0, Nat.zero_le _, rfl, by rw [HO1.out]; simp [escL], Lib.hid (fun x hx => by simp at hx), HB0⟩
            case round =>
              clear HB0
              obtain ⟨k, hk, rfl, rfl, HMy, HB⟩ := hrel
              have c1 := (HB.out.cell HLt.out).trans HC.out
              have hek := esc_len ((nums t).take k)
              rw [List.length_take, nums_length] at hek
              obtain ⟨O, hO⟩ : ∃ O, strOfNums (p1 ++ escL ((nums t).take k)) = O := ⟨_, rfl⟩
              have hOs : O.size ≤ 75001 := by rw [← hO, str_size, List.length_append]; omega
              rw [hO]
              by_cases hkt : k < t.size
              · have d9 : decide ((k : Int) < (t.size : Int)) = true := decide_eq_true (by omega)
                have hx := nums_at t k hkt
                have hcb := allB_getD (nums_all t) k
                have hes := esc_take (xs := nums t) (k := k) (by rw [nums_length]; exact hkt)
                have HMt := Lib.hid (fun h => may_take HMy.out (by rw [nums_length]; exact hkt) h)
                have HBad := Lib.hid (fun (h : knd ((nums t).getD k 0) = 1) => show joinB ps = ⟨#[]⟩ from by
                  unfold joinB
                  rw [show joinW (ps.map nums) = [] from if_pos (Or.inr (Or.inl ⟨nums t, HMem.out, fun hm => hm _ (by
                    rw [List.getD_eq_getElem?_getD, List.getElem?_eq_getElem (by rw [nums_length]; exact hkt)]
                    exact List.getElem_mem _) h⟩))]
                  rfl)
                obtain ⟨c, hcc⟩ : ∃ c, (nums t).getD k 0 = c := ⟨_, rfl⟩
                rw [hcc] at hx hcb hes HMt HBad
                have HMa := Lib.hid (may_any c wr)
                have hwk : IntKind.i64.wrap ((k : Int) + 1) = (k : Int) + 1 := IntWalk.i64_in _ (by omega)
                clear hcc
                by_cases hod : knd c = 1
                · have HE := Lib.hid (HBad.out hod)
                  rw [show decide (knd c ≠ 1) = false from decide_eq_false (fun h => h hod)] at HMa
                  clear HBad hod hes HMt HMy hek hO
                  go_wp2_with fail
                  refine HMa.out.mono ?_
                  rintro e wm ⟨rfl, rfl⟩
                  go_wp2_with fail
                  go_ret
                  exact ⟨by rw [HE.out]; rfl, HB.out⟩
                · have HM2 := Lib.hid (HMt.out hod)
                  rw [show decide (knd c ≠ 1) = true from decide_eq_true hod] at HMa
                  by_cases hsg : c = 34 ∨ c = 92
                  · rw [if_pos hsg] at hes
                    obtain ⟨O2, hO2⟩ : ∃ O2, O ++ strOfNums [92] = O2 := ⟨_, rfl⟩
                    have hO2s : O2.size ≤ 75002 := by rw [← hO2, cat_size, str_size]; simp; omega
                    obtain ⟨O3, hO3⟩ : ∃ O3, O2 ++ strOfNums [c] = O3 := ⟨_, rfl⟩
                    have q1 := fun W => cat_run hO2 (by omega) (by rw [str_size]; simp) W
                    have q2 := fun W => cat_run hO3 (by omega) (by rw [str_size]; simp) W
                    have HO3 := Lib.hid (show O3 = strOfNums (p1 ++ escL ((nums t).take (k + 1))) from by
                      rw [hes, ← hO3, ← hO2, ← hO, str_append, str_append, List.append_assoc, List.append_assoc]
                      rfl)
                    have hcv1 := conv_bytes (made_one wr 92) rfl 1
                    have hcv2 := conv_bytes (made_one (wr.alloc (.cells #[.int .u8 92] 5)) c) rfl 1
                    rw [show (wr.alloc (.cells #[.int .u8 92] 5)).heap.size = wr.heap.size + 1 by simp] at hcv2
                    have HB2 := Lib.hid (show Below w.heap.size w ((wr.alloc (.cells #[.int .u8 92] 5)).alloc (.cells #[.int .u8 c] 5)) from (HB.out.alloc HB.out.size _).alloc (by simp; have := HB.out.size; omega) _)
                    clear HBad hod hes HMt HMy hek hO hO2 hO3 hO2s HB
                    rcases hsg with rfl | rfl
                    · go_wp2_with fail
                      refine HMa.out.mono ?_
                      rintro e wm ⟨rfl, rfl⟩
                      go_wp2_with fail
                      go_roundw
                      case rel => exact ⟨k + 1, by omega, by go_num, by rw [HO3.out], HM2, HB2⟩
                      case measure => simp [intOf]; omega
                    · go_wp2_with fail
                      refine HMa.out.mono ?_
                      rintro e wm ⟨rfl, rfl⟩
                      go_wp2_with fail
                      go_roundw
                      case rel => exact ⟨k + 1, by omega, by go_num, by rw [HO3.out], HM2, HB2⟩
                      case measure => simp [intOf]; omega
                  · rw [if_neg hsg] at hes
                    obtain ⟨O3, hO3⟩ : ∃ O3, O ++ strOfNums [c] = O3 := ⟨_, rfl⟩
                    have q2 := fun W => cat_run hO3 (by omega) (by rw [str_size]; simp) W
                    have HO3 := Lib.hid (show O3 = strOfNums (p1 ++ escL ((nums t).take (k + 1))) from by
                      rw [hes, ← hO3, ← hO, str_append, List.append_assoc])
                    have hcv1 := conv_bytes (made_one wr c) rfl 1
                    have HB2 := Lib.hid (show Below w.heap.size w (wr.alloc (.cells #[.int .u8 c] 5)) from HB.out.alloc HB.out.size _)
                    have s1 : (c == 34) = false := by simp; omega
                    have s2 : (c == 92) = false := by simp; omega
                    clear HBad hod hes HMt HMy hek hO hO3 HB hsg
                    go_wp2_with fail
                    refine HMa.out.mono ?_
                    rintro e wm ⟨rfl, rfl⟩
                    go_wp2_with fail
                    go_roundw
                    case rel => exact ⟨k + 1, by omega, by go_num, by rw [HO3.out], HM2, HB2⟩
                    case measure => simp [intOf]; omega
              · obtain rfl : k = t.size := by omega
                have d9 : decide ((t.size : Int) < (t.size : Int)) = false := by simp
                have hmy := HMy.out
                rw [← nums_length t, List.take_length] at hmy hO
                obtain ⟨O3, hO3⟩ : ∃ O3, O ++ (strOfNums [34]) = O3 := ⟨_, rfl⟩
                have q3 := fun W => cat_run hO3 (by omega) (by show _ ≤ 1100000; decide) W
                have HO3 := Lib.hid (show O3 = strOfNums (linL ((ps.take (i + 1)).map nums)) from by
                  rw [← HEnd.out, ← hO3, ← hO]
                  show strOfNums (p1 ++ escL (nums t)) ++ strOfNums [34] = _
                  rw [str_append])
                have HAll2 := Lib.hid (HAM.out hmy)
                have hwi : IntKind.i64.wrap ((i : Int) + 1) = (i : Int) + 1 := IntWalk.i64_in _ (by omega)
                clear hmy hO hO3 HMy hek hkt
                go_wp2_with fail
                go_roundw
                case rel => exact ⟨i + 1, by omega, by go_num, by rw [HO3.out], HAll2, HB⟩
                case measure => simp [intOf]; omega
      · obtain rfl : i = n := by omega
        have d3 : decide ((i : Int) < (i : Int)) = false := by simp
        have hall : ps.take i = ps := List.take_of_length_le (by rw [HI.out.1]; omega)
        rw [hall] at hX HM
        have hjw : joinW (ps.map nums) = if 256 < (linL (ps.map nums)).length then [] else linL (ps.map nums) := by
          unfold joinW
          have h1 : ¬ 16 < (ps.map nums).length := by rw [List.length_map, HI.out.1]; omega
          have h2 : ¬ ∃ v ∈ ps.map nums, ¬ mayL v := fun ⟨v, hv, hn⟩ => hn (HM.out v hv)
          by_cases h3 : 256 < (linL (ps.map nums)).length
          · rw [if_pos h3, if_pos (Or.inr (Or.inr h3))]
          · rw [if_neg h3, if_neg (by rintro (h | h | h) <;> contradiction)]
        have hXz : X.size = (linL (ps.map nums)).length := by rw [← hX, str_size]
        rw [← hXz] at hjw
        by_cases h256 : 256 < X.size
        · have HE := Lib.hid (show joinB ps = ⟨#[]⟩ from by unfold joinB; rw [hjw, if_pos h256]; rfl)
          have d5 : (256 : Int) < (X.size : Int) := by omega
          clear hjw hXz hX hall h256 hall1 hmost hXl hlk
          go_wp2_with fail
          go_ret
          exact ⟨by rw [HE.out]; rfl, HB.out⟩
        · have HE := Lib.hid (show joinB ps = X from by unfold joinB; rw [hjw, if_neg h256, hX])
          have d4 : decide ((X.size : Int) > 256) = false := decide_eq_false (by omega)
          have d5 : decide ((256 : Int) < (X.size : Int)) = false := decide_eq_false (by omega)
          clear hjw hXz hX hall h256 hall1 hmost hXl hlk
          go_wp2_with fail
          go_ret
          exact ⟨by rw [HE.out]; rfl, HB.out⟩
end Go.Proofs.YtngnkkigjlenoaaGreatDoor

/-
  Contract: what the statements' own alive answers. Conditions: as each states.
-/
import Derived.Test.YtmblgpejgdlakaaL
namespace Go.Proofs.Ytmblgpejgdlakaa
open Go.RowKit

theorem allB_of {xs : List Int} (h : xs.all (fun x => decide (0 ≤ x ∧ x < 256)) = true) : AllB xs := fun x hx => by
  have := List.all_eq_true.1 h x hx
  simpa using this
theorem text_ext (xs : List Int) (h : AllB xs) (i j : Nat) : (strOfNums xs).extract i j = strOfNums ((xs.drop i).take (j - i)) := by
  apply nums_inj'
  rw [ext_nums, nums_str _ h, nums_str _ ((h.drop i).take (j - i))]
theorem text_nil : strOfNums [] = ⟨#[]⟩ := rfl
theorem alive1 : doC ⟨#[]⟩ [] 0 0 5 0 (strOfNums [97, 98]) = ⟨strOfNums [97, 98], [5, 5], 5, 5, ⟨#[]⟩⟩ := by
  unfold doC
  rw [if_pos rfl, if_neg (by decide), ← text_nil, str_append]
  rfl
theorem alive2 : doC (strOfNums [97, 98]) [5, 5] 5 0 3 0 (strOfNums [99]) = ⟨strOfNums [97, 98, 99], [5, 5, 5], 5, 5, ⟨#[]⟩⟩ := by
  unfold doC
  rw [if_pos rfl, if_neg (by decide), str_append]
  rfl
theorem alive3 : runsK (strOfNums [99]) [5] 1 = [(5, strOfNums [99])] := by
  show stepR [] _ _ = _
  rw [text_ext _ (allB_of (by decide))]
  rfl
set_option maxRecDepth 100000 in
set_option maxHeartbeats 8000000 in
theorem alive_any (w : World) : Calls Try.prog 12 #[] w fun e w' => e = .returned (.bool true) ∧ Below w.heap.size w w' := by
  have kc := fun (w : World) (C : Array Value) (n c : Nat) => Lib.run_convert_bytes_const (P := Try.prog) w 39 5 C n c Try.underlying39 Try.underlying5
  go_enter Try.func12, Try.ntmps12
  go_wp2_with fail
  refine (new_at w _ (Below.refl _ _)).mono ?_
  rintro e w1 ⟨g, rfl, ha, _⟩
  have HA := Lib.hid ha
  clear ha
  generalize w.heap.size = B at HA
  go_wp2_with fail
  have HI := Lib.hid (made_bytes w1 [97, 98] 2 (2, 3) rfl)
  simp only [List.map_cons, List.map_nil] at HI
  have HA2 := Lib.hid (HA.out.on (show Below w1.heap.size w1 (w1.alloc (.cells #[.int .u8 97, .int .u8 98] 5 (2, 3))) from (Below.refl _ _).alloc (Nat.le_refl _) _))
  clear HA
  generalize w1.alloc (.cells #[.int .u8 97, .int .u8 98] 5 (2, 3)) = w2 at *
  refine (put_at (M' := 2) HA2.out 5 (n := 2) (s := strOfNums [97, 98]) rfl HI.out (by decide) (by decide) alive1).mono ?_
  rintro e w3 ⟨rfl, ha⟩
  have HA3 := Lib.hid ha
  clear ha HI HA2
  go_wp2_with fail
  have HI := Lib.hid (made_bytes w3 [99] 1 (1, 2) rfl)
  simp only [List.map_cons, List.map_nil] at HI
  have HA4 := Lib.hid (HA3.out.on (show Below w3.heap.size w3 (w3.alloc (.cells #[.int .u8 99] 5 (1, 2))) from (Below.refl _ _).alloc (Nat.le_refl _) _))
  clear HA3
  generalize w3.alloc (.cells #[.int .u8 99] 5 (1, 2)) = w4 at *
  refine (put_at (M' := 3) HA4.out 3 (n := 1) (s := strOfNums [99]) rfl HI.out (by decide) (by decide) alive2).mono ?_
  rintro e w5 ⟨rfl, ha⟩
  have HA5 := Lib.hid ha
  clear ha HI HA4
  go_wp2_with fail
  refine (take_at HA5.out 4 9 (K := 0) (by decide) (T := strOfNums []) (S' := strOfNums [97, 98, 99]) (A' := [5, 5, 5]) (text_ext _ (allB_of (by decide)) _ _) (text_ext _ (allB_of (by decide)) _ _) rfl).mono ?_
  rintro e w6 ⟨⟨q6, d6, rfl, _⟩, ha, _⟩
  have HA6 := Lib.hid ha
  clear ha HA5
  go_wp2_with fail
  refine (take_at HA6.out 5 2 (K := 2) (by decide) (T := strOfNums [97, 98]) (S' := strOfNums [99]) (A' := [5]) (text_ext _ (allB_of (by decide)) _ _) (text_ext _ (allB_of (by decide)) _ _) rfl).mono ?_
  rintro e w7 ⟨⟨q7, d7, rfl, hi7, _⟩, ha, _⟩
  have HA7 := Lib.hid ha
  have HI7 := Lib.hid hi7
  clear ha hi7 HA6
  go_wp2_with fail
  refine (list_at HA7.out alive3).mono ?_
  rintro e w8 h
  obtain ⟨⟨q8, d8, rfl, ho⟩, hb⟩ := got_of_out (m := 1) rfl h
  have HA8 := Lib.hid (HA7.out.on hb)
  have cv := got_text (T := strOfNums [97, 98]) (d := d7) (bytes_on HI7.out hb) rfl
  obtain ⟨b8, o8, rfl, hc8⟩ := (own_pcsIn ho).1 (by omega)
  obtain ⟨g0, g1⟩ := hc8 0 (by omega)
  simp only [Nat.zero_mul, Nat.add_zero, Nat.zero_add] at g0 g1
  have g0 : w8.cell? ⟨b8, o8, none⟩ = some (.int .i64 5) := g0
  have g1 : w8.cell? ⟨b8, o8 + 1, none⟩ = some (.string (strOfNums [99])) := g1
  have se : ((strOfNums [97, 98]).toList == [97, 98]) = true := by rw [Lib.strOfNums_toList]; decide
  have sf : ((strOfNums [99]).toList == [99]) = true := by rw [Lib.strOfNums_toList]; decide
  clear h ho hb hc8 HA7 HI7
  go_wp2_with fail
  refine (len_at HA8.out (n := 1) rfl).mono ?_
  rintro e w9 ⟨rfl, hb⟩
  have HA9 := Lib.hid (HA8.out.on hb)
  clear hb HA8
  go_wp2_with fail
  refine (last_at HA9.out).mono ?_
  rintro e wa ⟨rfl, hb⟩
  have HE := Lib.hid (HA9.out.on hb).below
  clear hb HA9
  go_wp2_with fail
  go_ret
  exact ⟨rfl, HE.out⟩
end Go.Proofs.Ytmblgpejgdlakaa

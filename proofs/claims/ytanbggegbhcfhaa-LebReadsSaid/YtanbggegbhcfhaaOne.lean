/-
  The walk of chicanelaw04.LebOne: it returns true, whatever bytes. Conditions: as each states.
-/
import Derived.Test.YtanbggegbhcfhaaW7
import Derived.Deep.RegionHeld3
namespace Go.Proofs.Ytanbggegbhcfhaa
open Go.RowKit
/-- A number's bytes, behind nothing. -/
theorem put_nil (y : Int) (Z : List Int) (hZ : Z = numI y) (hy : y ≤ 9223372036854775807) (w : World) : Calls Try.prog 13 #[.slice none 0 0, .int .i64 y] w (OutB Z w) := by
  have h := put_any none 0 0 [] y w rfl (by omega) (Lib.BytesIn.nil _ _ _) hy
  rw [List.nil_append, ← hZ] at h
  exact h
theorem out_bytes {zs : List Int} {w : World} {e : Ending} {w' : World} (h : OutB zs w e w') : ∃ q c, e = .returned (.slice q zs.length c) ∧ Lib.BytesIn w' q zs.length zs ∧ (q = none → c = 0) ∧ zs.length ≤ c ∧ c ≤ 9223372036854775807 ∧ (∀ a, q = some a → w.heap.size ≤ a.block ∧ a.block < w'.heap.size) ∧ Below w.heap.size w w' := by
  obtain ⟨u, rfl, ho, hb⟩ := h
  obtain ⟨q, c, rfl, _, hi, h1, h2, h3, h4⟩ := own_bytes ho
  exact ⟨q, c, rfl, hi, h1, h2, h3, h4, hb⟩
theorem out_conv {zs : List Int} {L : Nat} {A : ByteArray} {w : World} {e : Ending} {w' : World} (h : OutB zs w e w') (hL : zs.length = L) (hA : A = strOfNums zs) :
    ∃ q c, e = .returned (.slice q L c) ∧ (convert 22 9 (.slice q L c)).run Try.prog w' = .ok (.string A) w' ∧ Below w.heap.size w w' := by
  obtain ⟨q, c, rfl, hi, _, _, _, _, hb⟩ := out_bytes h
  subst hL hA
  exact ⟨q, c, rfl, conv_bytes hi rfl c, hb⟩
namespace lebOne

set_option maxHeartbeats 2000000 in
theorem walk_none (p : Option Addr) (n c : Nat) (xs : List Int) (w : World) (hx : xs.length = n) (hnc : n ≤ c) (hm : c ≤ 9223372036854775807) (hb : AllB xs) (hi : Lib.BytesIn w p n xs) (h0 : (getL xs).2 = 0) :
    Calls Try.prog 7 #[.slice p n c] w fun e w' => e = .returned (.bool true) ∧ Below w.heap.size w w' := by
  have hG := get_any p n c xs w hx hnc hm hb hi
  rw [get_zero xs h0] at hG
  have HG := Lib.hid hG
  clear hx hb hi hG h0
  go_enter Try.func7, Try.ntmps7
  go_wp2_with fail
  refine HG.out.mono ?_
  rintro e w1 ⟨rfl, rfl⟩
  go_wp2_with fail
  refine (alive_any _).mono ?_
  rintro e w5 ⟨rfl, hb5⟩
  have HB5 := Lib.hid hb5
  clear hb5
  go_wp2_with fail
  go_ret
  exact ⟨rfl, HB5.out⟩

set_option maxHeartbeats 4000000 in
theorem walk_some (p : Option Addr) (n c : Nat) (xs : List Int) (w : World) (hx : xs.length = n) (hnc : n ≤ c) (hm : c ≤ 9223372036854775807) (hb : AllB xs) (hi : Lib.BytesIn w p n xs) (h0 : (getL xs).2 ≠ 0) :
    Calls Try.prog 7 #[.slice p n c] w fun e w' => e = .returned (.bool true) ∧ Below w.heap.size w w' := by
  have hG := get_any p n c xs w hx hnc hm hb hi
  obtain ⟨h1, h2, h3, h4, h5⟩ := get_one xs hb h0
  rw [hx] at h2
  obtain ⟨y, hy⟩ : ∃ y : Int, (((getL xs).1 : Nat) : Int) = y := ⟨_, rfl⟩
  have hy0 : 0 ≤ y := by omega
  have hy1 : y ≤ 9223372036854775807 := by omega
  have hnum : numI y = xs.take (getL xs).2 := by rw [← hy, numI_nat, h4]
  rw [hy] at hG
  generalize (getL xs).2 = L at *
  obtain ⟨b, o, rfl, _⟩ := hi.at (by omega)
  obtain ⟨Z, hZ⟩ : ∃ Z, Z = xs.take L := ⟨_, rfl⟩
  have HZ := Lib.hid (show Z = numI y by rw [hZ, hnum])
  have HZL := Lib.hid (show Z.length = L by rw [hZ, List.length_take, hx]; omega)
  have hZI := bytes_take hi L h2
  rw [← hZ] at hZI
  obtain ⟨A, hA⟩ : ∃ A, A = strOfNums Z := ⟨_, rfl⟩
  have HSA := Lib.hid hA
  have HCV := Lib.hid (show ∀ (w' : World) (h : Below w.heap.size w w'), (convert 22 9 (.slice (some ⟨b, o, none⟩) L c)).run Try.prog w' = .ok (.string A) w' ∧ Below w.heap.size w w' from fun w' h => by
    rw [hA]
    exact ⟨conv_bytes (bytes_on hZI h) HZL.out c, h⟩)
  have HG := Lib.hid hG
  have c0 : ((L : Int) == 0) = false := by simp; omega
  have d1 : decide ((L : Int) ≤ (n : Int)) = true := by simp; omega
  have d1' : decide (L ≤ n) = true := by simp; omega
  have d2 : decide ((L : Int) ≤ 9) = true := by simp; omega
  have d3 : decide (0 ≤ y) = true := by simp; omega
  have l1 : (0 : Int) ≤ (L : Int) := by omega
  have l2 : L ≤ c := by omega
  clear hx hb hi hG h0 h4 h5 hy hnum hZ hZI hA
  go_enter Try.func7, Try.ntmps7
  go_wp2_with fail
  refine HG.out.mono ?_
  rintro e w1 ⟨rfl, rfl⟩
  go_wp2_with fail
  go_region_held (fun w' => (convert 22 9 (.slice (some ⟨b, o, none⟩) L c)).run Try.prog w' = .ok (.string A) w' ∧ Below w.heap.size w w')
    ((refine HCV.out _ ?_
      go_split_ands
      first
        | with_reducible exact Below.refl _ _
        | with_reducible exact (Below.refl _ _).drew
        | with_reducible assumption
        | with_reducible exact Below.drew (by assumption)
        | with_reducible exact seqB (by assumption) (by assumption)))
    (first
      | (go_at_call 10; refine (alive_any _).mono ?_; rintro e w' ⟨rfl, hb'⟩)
      | (go_at_call 13; (with_reducible refine Calls.mono (put_nil y Z HZ.out hy1 _) ?_); intro e w' ho; obtain ⟨q, d, rfl, cv, hb'⟩ := out_conv ho HZL.out HSA.out; clear ho))
  all_goals
    go_split_ands
    go_wp2_with fail
    go_ret
    exact ⟨rfl, by assumption⟩

theorem walk (p : Option Addr) (n c : Nat) (xs : List Int) (w : World) (hx : xs.length = n) (hnc : n ≤ c) (hm : c ≤ 9223372036854775807) (hb : AllB xs) (hi : Lib.BytesIn w p n xs) :
    Calls Try.prog 7 #[.slice p n c] w fun e w' => e = .returned (.bool true) ∧ Below w.heap.size w w' := by
  by_cases h : (getL xs).2 = 0
  · exact walk_none p n c xs w hx hnc hm hb hi h
  · exact walk_some p n c xs w hx hnc hm hb hi h
end lebOne
end Go.Proofs.Ytanbggegbhcfhaa

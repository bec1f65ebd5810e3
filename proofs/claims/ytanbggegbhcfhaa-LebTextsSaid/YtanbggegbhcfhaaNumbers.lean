/-
  The walk of chicanelaw04.LebNumbers: it returns true, whatever number and bytes. Conditions: as each states.
-/
import Derived.Test.YtanbggegbhcfhaaW11
namespace Go.Proofs.Ytanbggegbhcfhaa
open Go.RowKit
/-- The document's Get of bytes that were turned into a text. -/
theorem rget_is (A : ByteArray) (xs : List Int) (hA : A = strOfNums xs) (hb : AllB xs) (hs : xs.length ≤ 5000) (w : World) : Calls Try.prog 12 #[.string A] w fun e w' => e = .returned (.tuple #[.int .i64 (getL xs).1, .int .i64 (getL xs).2]) ∧ Below w.heap.size w w' := by
  have h := rget_any A (by rw [hA, strOfNums_size]; exact hs) w
  rw [hA, nums_str xs hb] at h
  rw [hA]
  exact h
theorem app_own {w w0 : World} {base m : Nat} {v : Value} {zs : List Int} (hown : w.ownsRow base 5 1 v m (zs.map (Value.int .u8))) (hbase : base ≤ w.heap.size) (hb : Below base w0 w) {p : Option Addr} {n c : Nat} {xs : List Int}
    (hx : xs.length = n) (hpc : p = none → c = 0) (hi : Lib.BytesIn w p n xs) (hbig : m + n ≤ 140737488355328) (ty : TypeId) :
    ∃ q d w', (Builtin.append_ #[22, 22] ty #[v, .slice p n c]).run Try.prog w = .ok (.slice q (m + n) d) w' ∧ Lib.BytesIn w' q (m + n) (zs ++ xs) ∧ m + n ≤ d ∧ d ≤ 9223372036854775807 ∧ Below base w0 w' := by
  obtain ⟨v', w', h1, h2, h3, _⟩ := app_bytes hown hbase hx hpc hi hbig ty
  rw [← List.map_append] at h2
  obtain ⟨q, d, rfl, _, h4, _, h5, h6, _⟩ := own_bytes h2
  exact ⟨q, d, w', h1, h4, h5, h6, hb.grown h3 hbase (fun j hj => (hown.lt j hj).1)⟩
namespace lebNumbers

set_option maxHeartbeats 2000000 in
theorem walk_long (y : Int) (p : Option Addr) (n c : Nat) (h : 1000 < n) (hn : n ≤ 9223372036854775807) (w : World) :
    Calls Try.prog 3 #[.int .i64 y, .slice p n c] w fun e w' => e = .returned (.bool true) ∧ Below w.heap.size w w' := by
  have d1 : decide ((1000 : Int) < (n : Int)) = true := by simp; omega
  go_enter Try.func3, Try.ntmps3
  go_wp2_with fail
  refine (alive_any _).mono ?_
  rintro e w5 ⟨rfl, hb5⟩
  have HB5 := Lib.hid hb5
  clear hb5
  go_wp2_with fail
  go_ret
  exact ⟨rfl, HB5.out⟩

set_option maxHeartbeats 8000000 in
theorem walk_main (y : Int) (p : Option Addr) (n c : Nat) (xs : List Int) (w : World) (hx : xs.length = n) (hnc : n ≤ c) (hm : c ≤ 9223372036854775807) (hb : AllB xs) (hpc : p = none → c = 0) (hi : Lib.BytesIn w p n xs) (hy : y ≤ 9223372036854775807) (hn : n ≤ 1000) :
    Calls Try.prog 3 #[.int .i64 y, .slice p n c] w fun e w' => e = .returned (.bool true) ∧ Below w.heap.size w w' := by
  have HX := Lib.hid hx
  have HA := Lib.hid hb
  have HP := Lib.hid hpc
  have HI := Lib.hid hi
  have d1 : decide ((1000 : Int) < (n : Int)) = false := by simp; omega
  obtain ⟨Bs, HBS⟩ : ∃ Bs, Hid (Bs = strOfNums xs) := ⟨_, Lib.hid rfl⟩
  obtain ⟨Nm, HNM⟩ : ∃ Nm, Hid (Nm = strOfNums (numI y)) := ⟨_, Lib.hid rfl⟩
  obtain ⟨Z, HZ⟩ : ∃ Z, Hid (Z = xs ++ numI y) := ⟨_, Lib.hid rfl⟩
  have h9 := numI_len9 y (by omega)
  have hBs : Bs.size ≤ 1000 := by rw [HBS.out, strOfNums_size]; omega
  have hNm : Nm.size ≤ 9 := by rw [HNM.out, strOfNums_size]; exact h9
  obtain ⟨L, HL⟩ : ∃ L, Hid (Z.length = L) := ⟨_, Lib.hid rfl⟩
  have hG := get_any p n c xs w hx hnc hm hb hi
  obtain ⟨X, hX⟩ : ∃ X : Int, (((getL xs).1 : Nat) : Int) = X := ⟨_, rfl⟩
  obtain ⟨K, hK⟩ : ∃ K : Int, (((getL xs).2 : Nat) : Int) = K := ⟨_, rfl⟩
  have hRG := fun w => rget_is Bs xs HBS.out hb (by omega) w
  rw [hX, hK] at hG
  simp only [hX, hK] at hRG
  have HG := Lib.hid hG
  have HRG := Lib.hid hRG
  have HXK := Lib.hid (And.intro hX hK)
  have cv0 : (convert 22 9 (.slice p n c)).run Try.prog w = .ok (.string Bs) w := by rw [HBS.out]; exact conv_bytes hi hx c
  clear hx hb hpc hi hG hRG hX hK
  go_enter Try.func3, Try.ntmps3
  go_wp2_with fail
  refine HG.out.mono ?_
  rintro e w1 ⟨rfl, rfl⟩
  go_wp2_with fail
  clear cv0
  refine (HRG.out _).mono ?_
  rintro e w1 ⟨rfl, hb1⟩
  have HB1 := Lib.hid hb1
  clear hb1
  go_wp2_with fail
  have hput := put_any p n c xs y w1 HX.out (by omega) (bytes_on HI.out HB1.out) hy
  rw [← HZ.out] at hput
  refine hput.mono ?_
  intro e w2 ho
  obtain ⟨q, d, rfl, hi2, _, _, _, _, hb2⟩ := out_bytes ho
  rw [HL.out] at hi2
  rw [HL.out]
  have HI2 := Lib.hid hi2
  have HB2 := Lib.hid (seqB HB1.out hb2)
  clear hi2 hb2 ho hput
  have HCV := Lib.hid (show ∀ (w' : World) (h : Below w2.heap.size w2 w'), (convert 22 9 (.slice q L d)).run Try.prog w' = .ok (.string (Bs ++ Nm)) w' ∧ (convert 22 9 (.slice p n c)).run Try.prog w' = .ok (.string Bs) w' ∧ Below w2.heap.size w2 w' from fun w' h => by
    rw [HBS.out, HNM.out, str_append, ← HZ.out]
    exact ⟨conv_bytes (bytes_on HI2.out h) HL.out d, conv_bytes (bytes_on HI.out (seqB HB2.out h)) HX.out c, h⟩)
  go_wp2_with fail
  go_region_held (fun w' => (convert 22 9 (.slice q L d)).run Try.prog w' = .ok (.string (Bs ++ Nm)) w' ∧ (convert 22 9 (.slice p n c)).run Try.prog w' = .ok (.string Bs) w' ∧ Below w2.heap.size w2 w')
    ((refine HCV.out _ ?_
      go_split_ands
      first
        | with_reducible exact Below.refl _ _
        | with_reducible exact (Below.refl _ _).drew
        | with_reducible assumption
        | with_reducible exact Below.drew (by assumption)
        | with_reducible exact seqB (by assumption) (by assumption)))
    (first
      | (go_at_call 14; (with_reducible refine Calls.mono (rnum_any y hy Nm HNM.out _) ?_); rintro e w' ⟨rfl, hb'⟩))
  have HB3 := Lib.hid (show Below w.heap.size w w' by go_split_ands; exact seqB HB2.out (by assumption))
  clear HCV HI2 HRG HG
  go_split_ands
  go_wp2_with fail
  refine (put_nil y (numI y) rfl hy _).mono ?_
  rintro e w4 ⟨u, rfl, ho, hb4⟩
  obtain ⟨q5, d5, w5, hrun, hi5, hd5, hd6, hb5⟩ := app_own ho hb4.size hb4 HX.out HP.out (bytes_on HI.out (seqB HB3.out hb4)) (by omega) 22
  have HR := Lib.hid hrun
  have HI5 := Lib.hid hi5
  have HB5 := Lib.hid (seqB HB3.out hb5)
  obtain ⟨M, HM⟩ : ∃ M, Hid ((numI y).length = M) := ⟨_, Lib.hid rfl⟩
  rw [HM.out] at HR HI5 hd5 h9
  clear hrun hi5 hb5 hb4 ho
  go_wp2_with (at_builtin; refine Lib.wpList_append_run _ rfl _ _ _ _ rfl _ _ rfl rfl _ _ HR.out ?_)
  clear HR
  refine (get_any q5 (M + n) d5 (numI y ++ xs) _ (by rw [List.length_append, HM.out, HX.out]) hd5 hd6 ((allB_numI y).append HA.out) HI5.out).mono ?_
  rintro e w6 ⟨rfl, rfl⟩
  by_cases h0 : y < 0
  · have d0 : decide (y < 0) = true := by simpa using h0
    generalize getL (numI y ++ xs) = r
    obtain ⟨r1, r2⟩ := r
    go_wp2_with fail
    refine (alive_any _).mono ?_
    rintro e w7 ⟨rfl, hb7⟩
    have HB7 := Lib.hid (seqB HB5.out hb7)
    clear hb7
    go_wp2_with fail
    go_ret
    exact ⟨rfl, HB7.out⟩
  · have d0 : decide (y < 0) = false := by simpa using h0
    obtain ⟨N, HN⟩ : ∃ N : Nat, Hid (y = (N : Int)) := ⟨y.toNat, Lib.hid (by omega)⟩
    have hget : getL (numI y ++ xs) = (y.toNat, M) := by
      have h := HN.out
      have h' := HM.out
      rw [h, numI_nat] at h' ⊢
      rw [get_num N (by omega), h']
      simp
    rw [hget]
    clear hget
    simp only
    rw [Int.toNat_of_nonneg (by omega)]
    go_wp2_with fail
    refine (alive_any _).mono ?_
    rintro e w7 ⟨rfl, hb7⟩
    have HB7 := Lib.hid (seqB HB5.out hb7)
    clear hb7
    go_wp2_with fail
    refine (rnum_any y hy Nm HNM.out _).mono ?_
    rintro e w8 ⟨rfl, hb8⟩
    have HB8 := Lib.hid (seqB HB7.out hb8)
    have eM : ((M : Int) == (Nm.size : Int)) = true := by
      rw [HNM.out, strOfNums_size, HM.out]
      simp
    have eM' : (M == Nm.size) = true := by
      rw [HNM.out, strOfNums_size, HM.out]
      simp
    clear hb8
    go_wp2_with fail
    go_ret
    exact ⟨rfl, HB8.out⟩

theorem walk (y : Int) (p : Option Addr) (n c : Nat) (xs : List Int) (w : World) (hx : xs.length = n) (hnc : n ≤ c) (hm : c ≤ 9223372036854775807) (hb : AllB xs) (hpc : p = none → c = 0) (hi : Lib.BytesIn w p n xs) (hy : y ≤ 9223372036854775807) :
    Calls Try.prog 3 #[.int .i64 y, .slice p n c] w fun e w' => e = .returned (.bool true) ∧ Below w.heap.size w w' := by
  by_cases h : 1000 < n
  · exact walk_long y p n c h (by omega) w
  · exact walk_main y p n c xs w hx hnc hm hb hpc hi hy (by omega)
end lebNumbers
end Go.Proofs.Ytanbggegbhcfhaa

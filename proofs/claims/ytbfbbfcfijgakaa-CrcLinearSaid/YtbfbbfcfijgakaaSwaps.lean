/-
  The walk of chicanelaw03.CrcSwaps: it returns true, whatever bytes and place. Conditions: as each states.
-/
import Derived.Test.YtbfbbfcfijgakaaW4
import Derived.Test.YtbfbbfcfijgakaaOwn
import Derived.Laws.OwnMore
import Derived.BigRegion
import Derived.Deep.RegionHeld3
import Derived.IntWalk
namespace Go.Proofs.Ytbfbbfcfijgakaa.crcSwaps
open Go.RowKit crcOwn

theorem sum_is (P : Int) (p : Option Addr) (n c : Nat) (xs : List Int) (w : World) (hP : ((sumB xs).toNat : Int) = P) (hx : xs.length = n) (hm : n ≤ 9223372036854775807) (hb : AllB xs) (hi : Lib.BytesIn w p n xs) :
    Calls Try.prog 12 #[.slice p n c] w fun e w' => e = .returned (.int .u32 P) ∧ w = w' := by
  rw [← hP]
  exact sum_any p n c xs w hx hm hb hi
theorem keep_below {w w' : World} {a : Addr} {v : Value} (hb : Below w.heap.size w w') (h : w.cell? a = some v) : w'.cell? a = some v := (hb.cell (World.block_lt_of_cell? w a h)).trans h
theorem keep_drew {w : World} {a : Addr} {v : Value} (h : w.cell? a = some v) : w.drew.cell? a = some v := h

set_option maxHeartbeats 2000000 in
theorem walk_diff (p : Option Addr) (n c k : Nat) (l m : List Int) (y z : Int) (w : World) (hl : l.length = k) (hx : (l ++ y :: z :: m).length = n) (hb : AllB (l ++ y :: z :: m)) (hpc : p = none → c = 0) (hi : Lib.BytesIn w p n (l ++ y :: z :: m))
    (hn : n ≤ 1000) (hk : k + 1 < n) (P Q : Int) (t : Bool) (hP : ((sumB (l ++ z :: y :: m)).toNat : Int) = P) (hQ : ((sumB (l ++ y :: z :: m)).toNat : Int) = Q) (e0 : (P == Q) = t) (e1 : (y == z) = t) :
    Calls Try.prog 9 #[.slice p n c, .int .i64 k] w fun e w' => e = .returned (.bool true) ∧ Below w.heap.size w w' := by
  generalize hxs : l ++ y :: z :: m = xs at *
  have hky : xs.getD k 0 = y := by rw [← hxs, List.getD_eq_getElem?_getD, List.getElem?_append_right (by omega), hl]; simp
  have hkz : xs.getD (k + 1) 0 = z := by rw [← hxs, List.getD_eq_getElem?_getD, List.getElem?_append_right (by omega), hl]; simp
  have hbs : AllB (l ++ z :: y :: m) := fun x hx' => hb x (by rw [← hxs]; simp only [List.mem_append, List.mem_cons] at hx' ⊢; rcases hx' with h | h | h | h <;> simp [h])
  have HAS := Lib.hid hbs
  have HP := Lib.hid hP
  have HQ := Lib.hid hQ
  have E0 := Lib.hid e0
  have E1 := Lib.hid e1
  clear hbs hP hQ e0 e1
  have HX := Lib.hid hx
  have HA := Lib.hid hb
  have HI := Lib.hid hi
  have HXS := Lib.hid hxs
  have HKY := Lib.hid hky
  have HKZ := Lib.hid hkz
  have HL := Lib.hid hl
  have d0 : decide ((1000 : Int) < (n : Int)) = false := by simp; omega
  have d1 : decide ((k : Int) < 0) = false := by simp
  have d2 : decide ((n : Int) - 1 ≤ (k : Int)) = false := by simp; omega
  obtain ⟨w1, hw1⟩ : ∃ w1, w1 = w.alloc (.cells #[] 5) := ⟨_, rfl⟩
  have HB1 := Lib.hid (show Below w.heap.size w w1 by rw [hw1]; exact (Below.refl _ _).alloc (Nat.le_refl _) _)
  have O0 : w1.ownsRow w.heap.size 5 1 (.slice (some ⟨w.heap.size, 0, none⟩) 0 0) 0 [] := by
    rw [hw1]
    exact ⟨rfl, Or.inr ⟨w.heap.size, 0, #[], rfl, Nat.le_refl _, heap_alloc_new w _, by omega, by simp [maxLen], rfl, rfl⟩⟩
  obtain ⟨v', w2, hrun, hown2, hg2, hne2⟩ := app_bytes O0 HB1.out.size hx hpc (bytes_on hi HB1.out) (by omega) 22
  have HR := Lib.hid hrun
  have HB2 := Lib.hid (HB1.out.grown hg2 HB1.out.size (fun j hj => (O0.lt j hj).1))
  simp only [Nat.zero_add, List.nil_append] at hown2
  obtain ⟨g, cap, rfl, hg1, hgc⟩ := own_row hown2 (by omega)
  have g0 : _ = some (Value.int .u8 y) := (hown2.cellAt k (by omega)).trans (by rw [getD_map8 _ _ (by omega), hky])
  have g1 : _ = some (Value.int .u8 z) := (hown2.cellAt (k + 1) (by omega)).trans (by rw [getD_map8 _ _ (by omega), hkz])
  have f0 := hown2.frozenAt k
  have f1 := hown2.frozenAt (k + 1)
  have HO2 := Lib.hid hown2
  rw [hw1] at HR
  clear hx hb hpc hi hxs hky hkz hl O0 hrun hown2 hg2 hne2 hw1
  go_enter Try.func9, Try.ntmps9
  go_wp2_with (at_builtin; refine Lib.wpList_append_run _ rfl _ _ _ _ rfl _ _ rfl rfl _ _ HR.out ?_)
  go_region
  generalize hw3 : (World.setCell (w2.setCell ⟨g, k, none⟩ (.int .u8 z)) ⟨g, k + 1, none⟩ (.int .u8 y)).drew = w3
  have HO3 := Lib.hid (show w3.ownsRow w.heap.size 5 1 (.slice (some ⟨g, 0, none⟩) n cap) n ((l ++ z :: y :: m).map (Value.int .u8)) by
    rw [← hw3]
    have h1 := ((HO2.out.stored k (.int .u8 z)).1.stored (k + 1) (.int .u8 y)).1.drew
    rw [← HXS.out, ← HL.out] at h1
    rw [← HL.out]
    simpa using h1)
  have HB3 := Lib.hid (show Below w.heap.size w w3 by
    rw [← hw3]
    exact ((HB2.out.setCell hg1 _).setCell hg1 _).drew)
  have HI3 := Lib.hid (own_in HO3.out)
  clear hw3 HO2 HO3 g0 g1 f0 f1
  obtain ⟨b, o, rfl, hc⟩ := HI.out.at (by omega)
  have q0 : w3.cell? ⟨b, o + k, none⟩ = some (.int .u8 y) := by rw [← HKY.out]; exact keep_below HB3.out (hc k (by omega))
  have q1 : w3.cell? ⟨b, o + (k + 1), none⟩ = some (.int .u8 z) := by rw [← HKZ.out]; exact keep_below HB3.out (hc (k + 1) (by omega))
  have HI4 := Lib.hid (bytes_on HI.out HB3.out)
  have q2 : Below w3.heap.size w3 w3 := Below.refl _ _
  clear hc
  have HX2 := Lib.hid (show (l ++ z :: y :: m).length = n by
    have := HX.out
    rw [← HXS.out] at this
    simpa using this)
  have hn63 : n ≤ 9223372036854775807 := by omega
  have e0 := E0.out
  have e1 := E1.out
  have i0 : (0 : Int) ≤ (k : Int) := by omega
  have i1 : (k : Int) < (n : Int) := by omega
  have i2 : (0 : Int) ≤ (k : Int) + 1 := by omega
  have i3 : (k : Int) + 1 < (n : Int) := by omega
  have i5 : ((k : Int) + 1).toNat = k + 1 := by omega
  have i4 : IntKind.i64.wrap ((k : Int) + 1) = (k : Int) + 1 := IntWalk.i64_in _ (by omega)
  go_wp2_with fail
  go_region_held3 (fun w' => w'.cell? ⟨b, o + k, none⟩ = some (.int .u8 y) ∧ w'.cell? ⟨b, o + (k + 1), none⟩ = some (.int .u8 z) ∧ Below w3.heap.size w3 w')
    (first
      | (go_split_ands; (refine ⟨?_, ?_, ?_⟩ <;> (first | assumption | exact keep_drew (by assumption) | exact keep_below (by assumption) (by assumption) | exact Below.drew (by assumption) | exact seqB (by assumption) (by assumption)))))
    (first
      | (go_at_call 10; refine (alive_any _).mono ?_; rintro e w' ⟨rfl, hb'⟩)
      | (go_at_call 12; go_split_ands; refine Calls.mono (sum_is P (some ⟨g, 0, none⟩) n cap (l ++ z :: y :: m) _ HP.out HX2.out hn63 HAS.out (bytes_on HI3.out (by assumption))) ?_; rintro e w' ⟨rfl, rfl⟩)
      | (go_at_call 12; go_split_ands; refine Calls.mono (sum_is Q (some ⟨b, o, none⟩) n c xs _ HQ.out HX.out hn63 HA.out (bytes_on HI4.out (by assumption))) ?_; rintro e w' ⟨rfl, rfl⟩))
  go_split_ands
  go_wp2_with fail
  go_ret
  exact ⟨rfl, seqB HB3.out (by assumption)⟩

set_option maxHeartbeats 2000000 in
theorem early0 (p : Option Addr) (n c : Nat) (A : Int) (w : World) (h0 : 1000 < n) :
    Calls Try.prog 9 #[.slice p n c, .int .i64 A] w fun e w' => e = .returned (.bool true) ∧ Below w.heap.size w w' := by
  have d0 : decide ((1000 : Int) < (n : Int)) = true := by simp; omega
  go_enter Try.func9, Try.ntmps9
  go_wp2_with fail
  refine (alive_any _).mono ?_
  rintro e w5 ⟨rfl, hb5⟩
  have HB5 := Lib.hid hb5
  clear hb5
  go_wp2_with fail
  go_ret
  exact ⟨rfl, HB5.out⟩
set_option maxHeartbeats 2000000 in
theorem early1 (p : Option Addr) (n c : Nat) (A : Int) (w : World) (h0 : n ≤ 1000) (h1 : A < 0) :
    Calls Try.prog 9 #[.slice p n c, .int .i64 A] w fun e w' => e = .returned (.bool true) ∧ Below w.heap.size w w' := by
  have d0 : decide ((1000 : Int) < (n : Int)) = false := by simp; omega
  have d1 : decide (A < 0) = true := by simp; omega
  go_enter Try.func9, Try.ntmps9
  go_wp2_with fail
  refine (alive_any _).mono ?_
  rintro e w5 ⟨rfl, hb5⟩
  have HB5 := Lib.hid hb5
  clear hb5
  go_wp2_with fail
  go_ret
  exact ⟨rfl, HB5.out⟩
set_option maxHeartbeats 2000000 in
theorem early2 (p : Option Addr) (n c : Nat) (A : Int) (w : World) (h0 : n ≤ 1000) (h1 : 0 ≤ A) (h2 : (n : Int) - 1 ≤ A) :
    Calls Try.prog 9 #[.slice p n c, .int .i64 A] w fun e w' => e = .returned (.bool true) ∧ Below w.heap.size w w' := by
  have d0 : decide ((1000 : Int) < (n : Int)) = false := by simp; omega
  have d1 : decide (A < 0) = false := by simp; omega
  have d2 : decide ((n : Int) - 1 ≤ A) = true := by simp; omega
  go_enter Try.func9, Try.ntmps9
  go_wp2_with fail
  refine (alive_any _).mono ?_
  rintro e w5 ⟨rfl, hb5⟩
  have HB5 := Lib.hid hb5
  clear hb5
  go_wp2_with fail
  go_ret
  exact ⟨rfl, HB5.out⟩

theorem walk (p : Option Addr) (n c : Nat) (A : Int) (xs : List Int) (w : World) (hx : xs.length = n) (hb : AllB xs) (hpc : p = none → c = 0) (hi : Lib.BytesIn w p n xs) :
    Calls Try.prog 9 #[.slice p n c, .int .i64 A] w fun e w' => e = .returned (.bool true) ∧ Below w.heap.size w w' := by
  by_cases h0 : 1000 < n
  · exact early0 p n c A w h0
  by_cases h1 : A < 0
  · exact early1 p n c A w (by omega) h1
  by_cases h2 : (n : Int) - 1 ≤ A
  · exact early2 p n c A w (by omega) (by omega) h2
  obtain ⟨k, rfl⟩ := Int.eq_ofNat_of_zero_le (show 0 ≤ A by omega)
  have e : xs = xs.take k ++ xs[k]'(by omega) :: xs[k + 1]'(by omega) :: xs.drop (k + 2) := by
    rw [← List.drop_eq_getElem_cons, ← List.drop_eq_getElem_cons, List.take_append_drop]
  have hy := hb (xs[k]'(by omega)) (List.getElem_mem _)
  have hz := hb (xs[k + 1]'(by omega)) (List.getElem_mem _)
  have hl : (xs.take k).length = k := by simp; omega
  generalize xs.take k = l at e hl
  generalize xs[k]'(by omega) = y at e hy
  generalize xs[k + 1]'(by omega) = z at e hz
  generalize xs.drop (k + 2) = m at e
  subst e
  have hs := sumB_swap l m y z hy hz
  refine walk_diff p n c k l m y z w hl hx hb hpc hi (by omega) (by omega) _ _ (decide (y = z)) rfl rfl ?_ ?_
  · rw [← hs]
    by_cases h : sumB (l ++ z :: y :: m) = sumB (l ++ y :: z :: m)
    · simp [h]
    · have : ¬ (sumB (l ++ z :: y :: m)).toNat = (sumB (l ++ y :: z :: m)).toNat := fun h' => h (BitVec.eq_of_toNat_eq h')
      simp only [h, decide_false, beq_eq_false_iff_ne, ne_eq]
      omega
  · by_cases h : y = z <;> simp [h]
end Go.Proofs.Ytbfbbfcfijgakaa.crcSwaps

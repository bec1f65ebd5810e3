/-
  Contracts: the digits that the document's own Of and Times tell. Conditions: as each states.
-/
import Derived.Test.YtidklcjacejkaaaT1
namespace Go.Proofs.Ytidklcjacejkaaa
open Go.RowKit

set_option maxHeartbeats 800000 in
theorem of_any (n : Int) (h0 : 0 ≤ n) (h1 : n ≤ 1099511627776) (w : World) : Calls Try.prog 34 #[.int .i64 n] w fun e w' => e = .returned (.agg #[.int .i64 (n % 1048576), .int .i64 (n / 1048576 % 1048576), .int .i64 (n / 1099511627776), .int .i64 0]) ∧ Below w.heap.size w w' := by
  go_enter Try.func34, Try.ntmps34
  go_wp2_with fail
  exact bodyPost_ret (v := .agg #[.int .i64 (n % 1048576), .int .i64 (n / 1048576 % 1048576), .int .i64 (n / 1099511627776), .int .i64 0]) (by simp [results, Try.results34, go_sem]) rfl ⟨rfl, (Below.refl _ _).alloc (Nat.le_refl _) _⟩

/-- What the first t rounds of the two loops have added, digit by digit. -/
def sumTo (a0 a1 a2 b0 b1 b2 : Int) : Nat → Int
  | 0 => 0
  | 1 => a0 * b0
  | 2 => a0 * b0 + a0 * b1 * 1048576
  | 3 => a0 * b0 + a0 * b1 * 1048576 + a0 * b2 * 1099511627776
  | 4 => a0 * b0 + a0 * b1 * 1048576 + a0 * b2 * 1099511627776 + a1 * b0 * 1048576
  | 5 => a0 * b0 + a0 * b1 * 1048576 + a0 * b2 * 1099511627776 + a1 * b0 * 1048576 + a1 * b1 * 1099511627776
  | 6 => a0 * b0 + a0 * b1 * 1048576 + a0 * b2 * 1099511627776 + a1 * b0 * 1048576 + a1 * b1 * 1099511627776 + a1 * b2 * 1152921504606846976
  | 7 => a0 * b0 + a0 * b1 * 1048576 + a0 * b2 * 1099511627776 + a1 * b0 * 1048576 + a1 * b1 * 1099511627776 + a1 * b2 * 1152921504606846976 + a2 * b0 * 1099511627776
  | 8 => a0 * b0 + a0 * b1 * 1048576 + a0 * b2 * 1099511627776 + a1 * b0 * 1048576 + a1 * b1 * 1099511627776 + a1 * b2 * 1152921504606846976 + a2 * b0 * 1099511627776 + a2 * b1 * 1152921504606846976
  | _ => a0 * b0 + a0 * b1 * 1048576 + a0 * b2 * 1099511627776 + a1 * b0 * 1048576 + a1 * b1 * 1099511627776 + a1 * b2 * 1152921504606846976 + a2 * b0 * 1099511627776 + a2 * b1 * 1152921504606846976 + a2 * b2 * 1208925819614629174706176
def val6 (o0 o1 o2 o3 o4 o5 : Int) : Int := o0 + o1 * 1048576 + o2 * 1099511627776 + o3 * 1152921504606846976 + o4 * 1208925819614629174706176 + o5 * 1267650600228229401496703205376
/-- The world of Times: both arguments boxed, the result's block, and 'out'. -/
def wTimes (w : World) (a0 a1 a2 b0 b1 b2 o0 o1 o2 o3 o4 o5 : Int) : World :=
  (((w.alloc (.cells #[.int .i64 a0, .int .i64 a1, .int .i64 a2, .int .i64 0] 60)).alloc (.cells #[.int .i64 b0, .int .i64 b1, .int .i64 b2, .int .i64 0] 60)).alloc (.cells #[.int .i64 0, .int .i64 0, .int .i64 0, .int .i64 0, .int .i64 0, .int .i64 0] 58)).alloc (.cells #[.int .i64 o0, .int .i64 o1, .int .i64 o2, .int .i64 o3, .int .i64 o4, .int .i64 o5] 58)

theorem set_drewN (w : World) (m : Nat) (a : Addr) (v : Value) : (w.drewN m).setCell a v = (w.setCell a v).drewN m := rfl
theorem set_out (w : World) (cs : Array Value) (t : TypeId) (n j : Nat) (v : Value) (m : Nat) (hn : n = w.heap.size) : ((w.alloc (.cells cs t)).drewN m).setCell ⟨n, j, none⟩ v = (w.alloc (.cells (cs.setIfInBounds j v) t)).drewN m := by
  rw [set_drewN, World.setCell_alloc_at _ _ _ _ _ hn]

/-- What Times tells: the product's digits. -/
def TimesPost (a0 a1 a2 b0 b1 b2 : Int) (w : World) (e : Ending) (w' : World) : Prop :=
  ∃ o0 o1 o2 o3 o4 o5 : Int, e = .returned (.agg #[.int .i64 o0, .int .i64 o1, .int .i64 o2, .int .i64 o3, .int .i64 o4, .int .i64 o5]) ∧ val6 o0 o1 o2 o3 o4 o5 = sumTo a0 a1 a2 b0 b1 b2 9 ∧
    (o0 < 1048576 ∧ o1 < 1048576 ∧ o2 < 1048576 ∧ o3 < 1048576 ∧ o4 < 1048576) ∧ (0 ≤ o0 ∧ 0 ≤ o1 ∧ 0 ≤ o2 ∧ 0 ≤ o3 ∧ 0 ≤ o4 ∧ 0 ≤ o5) ∧ Below w.heap.size w w'

set_option maxHeartbeats 4000000 in
theorem times_any (a0 a1 a2 b0 b1 b2 : Int) (w : World)
    (p00 : 0 ≤ a0 * b0 ∧ a0 * b0 ≤ 1099511627776) (p01 : 0 ≤ a0 * b1 ∧ a0 * b1 ≤ 1099511627776) (p02 : 0 ≤ a0 * b2 ∧ a0 * b2 ≤ 1099511627776)
    (p10 : 0 ≤ a1 * b0 ∧ a1 * b0 ≤ 1099511627776) (p11 : 0 ≤ a1 * b1 ∧ a1 * b1 ≤ 1099511627776) (p12 : 0 ≤ a1 * b2 ∧ a1 * b2 ≤ 1099511627776)
    (p20 : 0 ≤ a2 * b0 ∧ a2 * b0 ≤ 1099511627776) (p21 : 0 ≤ a2 * b1 ∧ a2 * b1 ≤ 1099511627776) (p22 : 0 ≤ a2 * b2 ∧ a2 * b2 ≤ 1099511627776) :
    Calls Try.prog 33 #[.agg #[.int .i64 a0, .int .i64 a1, .int .i64 a2, .int .i64 0], .agg #[.int .i64 b0, .int .i64 b1, .int .i64 b2, .int .i64 0]] w (TimesPost a0 a1 a2 b0 b1 b2 w) := by
  go_enter Try.func33, Try.ntmps33
  go_wp2_with fail
  go_loopw [6] (fun i w' => ∃ (n m : Nat) (z o0 o1 o2 o3 o4 o5 : Int), n ≤ 3 ∧ z = n ∧ i = .int .i64 z ∧ w' = (wTimes w a0 a1 a2 b0 b1 b2 o0 o1 o2 o3 o4 o5).drewN m ∧
      (0 ≤ o0 ∧ o0 ≤ z * 4000000000000) ∧ (0 ≤ o1 ∧ o1 ≤ z * 4000000000000) ∧ (0 ≤ o2 ∧ o2 ≤ z * 4000000000000) ∧ (0 ≤ o3 ∧ o3 ≤ z * 4000000000000) ∧ (0 ≤ o4 ∧ o4 ≤ z * 4000000000000) ∧ (0 ≤ o5 ∧ o5 ≤ z * 4000000000000) ∧ Hid (val6 o0 o1 o2 o3 o4 o5 = sumTo a0 a1 a2 b0 b1 b2 (3 * n))) (fun i _ => 3 - (intOf i).toNat)
  case atStart => exact ⟨0, 0, 0, 0, 0, 0, 0, 0, 0, by omega, rfl, rfl, rfl, by omega, by omega, by omega, by omega, by omega, by omega, rfl⟩
  case round =>
    obtain ⟨n, m, z, o0, o1, o2, o3, o4, o5, hn, hz, rfl, rfl, r0, r1, r2, r3, r4, r5, HV⟩ := hrel
    have hn : n = 0 ∨ n = 1 ∨ n = 2 ∨ n = 3 := by omega
    unfold wTimes
    rcases hn with rfl | rfl | rfl | rfl
    · obtain rfl : z = 0 := hz
      go_wp2_with fail
      go_loopw [7] (fun k w' => ∃ (q m : Nat) (y o0 o1 o2 o3 o4 o5 : Int), q ≤ 3 ∧ y = q ∧ k = .int .i64 y ∧ w' = (wTimes w a0 a1 a2 b0 b1 b2 o0 o1 o2 o3 o4 o5).drewN m ∧
        (0 ≤ o0 ∧ o0 ≤ 0 * 4000000000000 + y * 1200000000000) ∧ (0 ≤ o1 ∧ o1 ≤ 0 * 4000000000000 + y * 1200000000000) ∧ (0 ≤ o2 ∧ o2 ≤ 0 * 4000000000000 + y * 1200000000000) ∧ (0 ≤ o3 ∧ o3 ≤ 0 * 4000000000000 + y * 1200000000000) ∧ (0 ≤ o4 ∧ o4 ≤ 0 * 4000000000000 + y * 1200000000000) ∧ (0 ≤ o5 ∧ o5 ≤ 0 * 4000000000000 + y * 1200000000000) ∧ Hid (val6 o0 o1 o2 o3 o4 o5 = sumTo a0 a1 a2 b0 b1 b2 (3 * 0 + q))) (fun k _ => 3 - (intOf k).toNat)
      case atStart => exact ⟨0, _, 0, _, _, _, _, _, _, by omega, rfl, rfl, rfl, by omega, by omega, by omega, by omega, by omega, by omega, HV.out⟩
      case round =>
        clear r0 r1 r2 r3 r4 r5 HV
        obtain ⟨q, m, y, o0, o1, o2, o3, o4, o5, hq, hy, rfl, rfl, r0, r1, r2, r3, r4, r5, HV⟩ := hrel
        have hq : q = 0 ∨ q = 1 ∨ q = 2 ∨ q = 3 := by omega
        unfold wTimes
        rcases hq with rfl | rfl | rfl | rfl
        · obtain rfl : y = 0 := hy
          have HV' := Lib.hid (show val6 (o0 + a0 * b0) o1 o2 o3 o4 o5 = sumTo a0 a1 a2 b0 b1 b2 (3 * 0 + 0 + 1) by have := HV.out; simp only [val6, sumTo] at *; omega)
          go_wp2_with fail
          go_region
          all_goals go_wp2_with fail
          all_goals go_roundw
          case rel => exact ⟨1, _, 1, _, _, _, _, _, _, by omega, rfl, rfl, (set_out _ _ _ _ _ _ _ (by simp)).trans rfl, by omega, by omega, by omega, by omega, by omega, by omega, HV'.out⟩
          case measure => simp [intOf]
        · obtain rfl : y = 1 := hy
          have HV' := Lib.hid (show val6 o0 (o1 + a0 * b1) o2 o3 o4 o5 = sumTo a0 a1 a2 b0 b1 b2 (3 * 0 + 1 + 1) by have := HV.out; simp only [val6, sumTo] at *; omega)
          go_wp2_with fail
          go_region
          all_goals go_wp2_with fail
          all_goals go_roundw
          case rel => exact ⟨2, _, 2, _, _, _, _, _, _, by omega, rfl, rfl, (set_out _ _ _ _ _ _ _ (by simp)).trans rfl, by omega, by omega, by omega, by omega, by omega, by omega, HV'.out⟩
          case measure => simp [intOf]
        · obtain rfl : y = 2 := hy
          have HV' := Lib.hid (show val6 o0 o1 (o2 + a0 * b2) o3 o4 o5 = sumTo a0 a1 a2 b0 b1 b2 (3 * 0 + 2 + 1) by have := HV.out; simp only [val6, sumTo] at *; omega)
          go_wp2_with fail
          go_region
          all_goals go_wp2_with fail
          all_goals go_roundw
          case rel => exact ⟨3, _, 3, _, _, _, _, _, _, by omega, rfl, rfl, (set_out _ _ _ _ _ _ _ (by simp)).trans rfl, by omega, by omega, by omega, by omega, by omega, by omega, HV'.out⟩
          case measure => simp [intOf]
        · obtain rfl : y = 3 := hy
          go_wp2_with fail
          go_roundw
          case rel => exact ⟨1, _, 1, _, _, _, _, _, _, by omega, rfl, rfl, rfl, by omega, by omega, by omega, by omega, by omega, by omega, HV.out⟩
          case measure => simp [intOf]
    · obtain rfl : z = 1 := hz
      go_wp2_with fail
      go_loopw [7] (fun k w' => ∃ (q m : Nat) (y o0 o1 o2 o3 o4 o5 : Int), q ≤ 3 ∧ y = q ∧ k = .int .i64 y ∧ w' = (wTimes w a0 a1 a2 b0 b1 b2 o0 o1 o2 o3 o4 o5).drewN m ∧
        (0 ≤ o0 ∧ o0 ≤ 1 * 4000000000000 + y * 1200000000000) ∧ (0 ≤ o1 ∧ o1 ≤ 1 * 4000000000000 + y * 1200000000000) ∧ (0 ≤ o2 ∧ o2 ≤ 1 * 4000000000000 + y * 1200000000000) ∧ (0 ≤ o3 ∧ o3 ≤ 1 * 4000000000000 + y * 1200000000000) ∧ (0 ≤ o4 ∧ o4 ≤ 1 * 4000000000000 + y * 1200000000000) ∧ (0 ≤ o5 ∧ o5 ≤ 1 * 4000000000000 + y * 1200000000000) ∧ Hid (val6 o0 o1 o2 o3 o4 o5 = sumTo a0 a1 a2 b0 b1 b2 (3 * 1 + q))) (fun k _ => 3 - (intOf k).toNat)
      case atStart => exact ⟨0, _, 0, _, _, _, _, _, _, by omega, rfl, rfl, rfl, by omega, by omega, by omega, by omega, by omega, by omega, HV.out⟩
      case round =>
        clear r0 r1 r2 r3 r4 r5 HV
        obtain ⟨q, m, y, o0, o1, o2, o3, o4, o5, hq, hy, rfl, rfl, r0, r1, r2, r3, r4, r5, HV⟩ := hrel
        have hq : q = 0 ∨ q = 1 ∨ q = 2 ∨ q = 3 := by omega
        unfold wTimes
        rcases hq with rfl | rfl | rfl | rfl
        · obtain rfl : y = 0 := hy
          have HV' := Lib.hid (show val6 o0 (o1 + a1 * b0) o2 o3 o4 o5 = sumTo a0 a1 a2 b0 b1 b2 (3 * 1 + 0 + 1) by have := HV.out; simp only [val6, sumTo] at *; omega)
          go_wp2_with fail
          go_region
          all_goals go_wp2_with fail
          all_goals go_roundw
          case rel => exact ⟨1, _, 1, _, _, _, _, _, _, by omega, rfl, rfl, (set_out _ _ _ _ _ _ _ (by simp)).trans rfl, by omega, by omega, by omega, by omega, by omega, by omega, HV'.out⟩
          case measure => simp [intOf]
        · obtain rfl : y = 1 := hy
          have HV' := Lib.hid (show val6 o0 o1 (o2 + a1 * b1) o3 o4 o5 = sumTo a0 a1 a2 b0 b1 b2 (3 * 1 + 1 + 1) by have := HV.out; simp only [val6, sumTo] at *; omega)
          go_wp2_with fail
          go_region
          all_goals go_wp2_with fail
          all_goals go_roundw
          case rel => exact ⟨2, _, 2, _, _, _, _, _, _, by omega, rfl, rfl, (set_out _ _ _ _ _ _ _ (by simp)).trans rfl, by omega, by omega, by omega, by omega, by omega, by omega, HV'.out⟩
          case measure => simp [intOf]
        · obtain rfl : y = 2 := hy
          have HV' := Lib.hid (show val6 o0 o1 o2 (o3 + a1 * b2) o4 o5 = sumTo a0 a1 a2 b0 b1 b2 (3 * 1 + 2 + 1) by have := HV.out; simp only [val6, sumTo] at *; omega)
          go_wp2_with fail
          go_region
          all_goals go_wp2_with fail
          all_goals go_roundw
          case rel => exact ⟨3, _, 3, _, _, _, _, _, _, by omega, rfl, rfl, (set_out _ _ _ _ _ _ _ (by simp)).trans rfl, by omega, by omega, by omega, by omega, by omega, by omega, HV'.out⟩
          case measure => simp [intOf]
        · obtain rfl : y = 3 := hy
          go_wp2_with fail
          go_roundw
          case rel => exact ⟨2, _, 2, _, _, _, _, _, _, by omega, rfl, rfl, rfl, by omega, by omega, by omega, by omega, by omega, by omega, HV.out⟩
          case measure => simp [intOf]
    · obtain rfl : z = 2 := hz
      go_wp2_with fail
      go_loopw [7] (fun k w' => ∃ (q m : Nat) (y o0 o1 o2 o3 o4 o5 : Int), q ≤ 3 ∧ y = q ∧ k = .int .i64 y ∧ w' = (wTimes w a0 a1 a2 b0 b1 b2 o0 o1 o2 o3 o4 o5).drewN m ∧
        (0 ≤ o0 ∧ o0 ≤ 2 * 4000000000000 + y * 1200000000000) ∧ (0 ≤ o1 ∧ o1 ≤ 2 * 4000000000000 + y * 1200000000000) ∧ (0 ≤ o2 ∧ o2 ≤ 2 * 4000000000000 + y * 1200000000000) ∧ (0 ≤ o3 ∧ o3 ≤ 2 * 4000000000000 + y * 1200000000000) ∧ (0 ≤ o4 ∧ o4 ≤ 2 * 4000000000000 + y * 1200000000000) ∧ (0 ≤ o5 ∧ o5 ≤ 2 * 4000000000000 + y * 1200000000000) ∧ Hid (val6 o0 o1 o2 o3 o4 o5 = sumTo a0 a1 a2 b0 b1 b2 (3 * 2 + q))) (fun k _ => 3 - (intOf k).toNat)
      case atStart => exact ⟨0, _, 0, _, _, _, _, _, _, by omega, rfl, rfl, rfl, by omega, by omega, by omega, by omega, by omega, by omega, HV.out⟩
      case round =>
        clear r0 r1 r2 r3 r4 r5 HV
        obtain ⟨q, m, y, o0, o1, o2, o3, o4, o5, hq, hy, rfl, rfl, r0, r1, r2, r3, r4, r5, HV⟩ := hrel
        have hq : q = 0 ∨ q = 1 ∨ q = 2 ∨ q = 3 := by omega
        unfold wTimes
        rcases hq with rfl | rfl | rfl | rfl
        · obtain rfl : y = 0 := hy
          have HV' := Lib.hid (show val6 o0 o1 (o2 + a2 * b0) o3 o4 o5 = sumTo a0 a1 a2 b0 b1 b2 (3 * 2 + 0 + 1) by have := HV.out; simp only [val6, sumTo] at *; omega)
          go_wp2_with fail
          go_region
          all_goals go_wp2_with fail
          all_goals go_roundw
          case rel => exact ⟨1, _, 1, _, _, _, _, _, _, by omega, rfl, rfl, (set_out _ _ _ _ _ _ _ (by simp)).trans rfl, by omega, by omega, by omega, by omega, by omega, by omega, HV'.out⟩
          case measure => simp [intOf]
        · obtain rfl : y = 1 := hy
          have HV' := Lib.hid (show val6 o0 o1 o2 (o3 + a2 * b1) o4 o5 = sumTo a0 a1 a2 b0 b1 b2 (3 * 2 + 1 + 1) by have := HV.out; simp only [val6, sumTo] at *; omega)
          go_wp2_with fail
          go_region
          all_goals go_wp2_with fail
          all_goals go_roundw
          case rel => exact ⟨2, _, 2, _, _, _, _, _, _, by omega, rfl, rfl, (set_out _ _ _ _ _ _ _ (by simp)).trans rfl, by omega, by omega, by omega, by omega, by omega, by omega, HV'.out⟩
          case measure => simp [intOf]
        · obtain rfl : y = 2 := hy
          have HV' := Lib.hid (show val6 o0 o1 o2 o3 (o4 + a2 * b2) o5 = sumTo a0 a1 a2 b0 b1 b2 (3 * 2 + 2 + 1) by have := HV.out; simp only [val6, sumTo] at *; omega)
          go_wp2_with fail
          go_region
          all_goals go_wp2_with fail
          all_goals go_roundw
          case rel => exact ⟨3, _, 3, _, _, _, _, _, _, by omega, rfl, rfl, (set_out _ _ _ _ _ _ _ (by simp)).trans rfl, by omega, by omega, by omega, by omega, by omega, by omega, HV'.out⟩
          case measure => simp [intOf]
        · obtain rfl : y = 3 := hy
          go_wp2_with fail
          go_roundw
          case rel => exact ⟨3, _, 3, _, _, _, _, _, _, by omega, rfl, rfl, rfl, by omega, by omega, by omega, by omega, by omega, by omega, HV.out⟩
          case measure => simp [intOf]
    · obtain rfl : z = 3 := hz
      go_wp2_with fail
      go_loopw [8] (fun k w' => ∃ (q m : Nat) (y o0 o1 o2 o3 o4 o5 : Int), q ≤ 5 ∧ y = q ∧ k = .int .i64 y ∧ w' = (wTimes w a0 a1 a2 b0 b1 b2 o0 o1 o2 o3 o4 o5).drewN m ∧
        (0 ≤ o0 ∧ o0 ≤ 13000000000000 + y * 14000000) ∧ (0 ≤ o1 ∧ o1 ≤ 13000000000000 + y * 14000000) ∧ (0 ≤ o2 ∧ o2 ≤ 13000000000000 + y * 14000000) ∧ (0 ≤ o3 ∧ o3 ≤ 13000000000000 + y * 14000000) ∧ (0 ≤ o4 ∧ o4 ≤ 13000000000000 + y * 14000000) ∧ (0 ≤ o5 ∧ o5 ≤ 13000000000000 + y * 14000000) ∧ Hid (val6 o0 o1 o2 o3 o4 o5 = sumTo a0 a1 a2 b0 b1 b2 9) ∧ Hid ((0 < q → o0 < 1048576) ∧ (1 < q → o1 < 1048576) ∧ (2 < q → o2 < 1048576) ∧ (3 < q → o3 < 1048576) ∧ (4 < q → o4 < 1048576))) (fun k _ => 5 - (intOf k).toNat)
      case atStart => exact ⟨0, _, 0, _, _, _, _, _, _, by omega, rfl, rfl, rfl, by omega, by omega, by omega, by omega, by omega, by omega, HV.out, by refine ⟨?_, ?_, ?_, ?_, ?_⟩ <;> (intro h; omega)⟩
      case round =>
        clear r0 r1 r2 r3 r4 r5 HV
        obtain ⟨q, m, y, o0, o1, o2, o3, o4, o5, hq, hy, rfl, rfl, r0, r1, r2, r3, r4, r5, HV, HC⟩ := hrel
        have hq : q = 0 ∨ q = 1 ∨ q = 2 ∨ q = 3 ∨ q = 4 ∨ q = 5 := by omega
        unfold wTimes
        rcases hq with rfl | rfl | rfl | rfl | rfl | rfl
        · obtain rfl : y = 0 := hy
          have HV' := Lib.hid (show val6 (o0 % 1048576) (o1 + o0 / 1048576) o2 o3 o4 o5 = sumTo a0 a1 a2 b0 b1 b2 9 by have := HV.out; simp only [val6] at *; omega)
          go_wp2_with fail
          go_region
          all_goals rw [set_out _ _ _ _ _ _ _ (by simp)]
          all_goals simp only [List.setIfInBounds_toArray, List.set]
          all_goals go_wp2_with fail
          all_goals go_roundw
          case rel => exact ⟨1, _, 1, _, _, _, _, _, _, by omega, rfl, rfl, (set_out _ _ _ _ _ _ _ (by simp)).trans rfl, by omega, by omega, by omega, by omega, by omega, by omega, HV'.out, by have := HC.out; refine ⟨?_, ?_, ?_, ?_, ?_⟩ <;> (intro h; omega)⟩
          case measure => simp [intOf]
        · obtain rfl : y = 1 := hy
          have HV' := Lib.hid (show val6 o0 (o1 % 1048576) (o2 + o1 / 1048576) o3 o4 o5 = sumTo a0 a1 a2 b0 b1 b2 9 by have := HV.out; simp only [val6] at *; omega)
          go_wp2_with fail
          go_region
          all_goals rw [set_out _ _ _ _ _ _ _ (by simp)]
          all_goals simp only [List.setIfInBounds_toArray, List.set]
          all_goals go_wp2_with fail
          all_goals go_roundw
          case rel => exact ⟨2, _, 2, _, _, _, _, _, _, by omega, rfl, rfl, (set_out _ _ _ _ _ _ _ (by simp)).trans rfl, by omega, by omega, by omega, by omega, by omega, by omega, HV'.out, by have := HC.out; refine ⟨?_, ?_, ?_, ?_, ?_⟩ <;> (intro h; omega)⟩
          case measure => simp [intOf]
        · obtain rfl : y = 2 := hy
          have HV' := Lib.hid (show val6 o0 o1 (o2 % 1048576) (o3 + o2 / 1048576) o4 o5 = sumTo a0 a1 a2 b0 b1 b2 9 by have := HV.out; simp only [val6] at *; omega)
          go_wp2_with fail
          go_region
          all_goals rw [set_out _ _ _ _ _ _ _ (by simp)]
          all_goals simp only [List.setIfInBounds_toArray, List.set]
          all_goals go_wp2_with fail
          all_goals go_roundw
          case rel => exact ⟨3, _, 3, _, _, _, _, _, _, by omega, rfl, rfl, (set_out _ _ _ _ _ _ _ (by simp)).trans rfl, by omega, by omega, by omega, by omega, by omega, by omega, HV'.out, by have := HC.out; refine ⟨?_, ?_, ?_, ?_, ?_⟩ <;> (intro h; omega)⟩
          case measure => simp [intOf]
        · obtain rfl : y = 3 := hy
          have HV' := Lib.hid (show val6 o0 o1 o2 (o3 % 1048576) (o4 + o3 / 1048576) o5 = sumTo a0 a1 a2 b0 b1 b2 9 by have := HV.out; simp only [val6] at *; omega)
          go_wp2_with fail
          go_region
          all_goals rw [set_out _ _ _ _ _ _ _ (by simp)]
          all_goals simp only [List.setIfInBounds_toArray, List.set]
          all_goals go_wp2_with fail
          all_goals go_roundw
          case rel => exact ⟨4, _, 4, _, _, _, _, _, _, by omega, rfl, rfl, (set_out _ _ _ _ _ _ _ (by simp)).trans rfl, by omega, by omega, by omega, by omega, by omega, by omega, HV'.out, by have := HC.out; refine ⟨?_, ?_, ?_, ?_, ?_⟩ <;> (intro h; omega)⟩
          case measure => simp [intOf]
        · obtain rfl : y = 4 := hy
          have HV' := Lib.hid (show val6 o0 o1 o2 o3 (o4 % 1048576) (o5 + o4 / 1048576) = sumTo a0 a1 a2 b0 b1 b2 9 by have := HV.out; simp only [val6] at *; omega)
          go_wp2_with fail
          go_region
          all_goals rw [set_out _ _ _ _ _ _ _ (by simp)]
          all_goals simp only [List.setIfInBounds_toArray, List.set]
          all_goals go_wp2_with fail
          all_goals go_roundw
          case rel => exact ⟨5, _, 5, _, _, _, _, _, _, by omega, rfl, rfl, (set_out _ _ _ _ _ _ _ (by simp)).trans rfl, by omega, by omega, by omega, by omega, by omega, by omega, HV'.out, by have := HC.out; refine ⟨?_, ?_, ?_, ?_, ?_⟩ <;> (intro h; omega)⟩
          case measure => simp [intOf]
        · obtain rfl : y = 5 := hy
          have hc := HC.out
          have hd : o0 < 1048576 ∧ o1 < 1048576 ∧ o2 < 1048576 ∧ o3 < 1048576 ∧ o4 < 1048576 := ⟨hc.1 (by omega), hc.2.1 (by omega), hc.2.2.1 (by omega), hc.2.2.2.1 (by omega), hc.2.2.2.2 (by omega)⟩
          clear hc
          go_wp2_with fail
          simp only [set_drewN]
          refine bodyPost_ret (v := .agg #[.int .i64 o0, .int .i64 o1, .int .i64 o2, .int .i64 o3, .int .i64 o4, .int .i64 o5]) (by simp [results, Try.results33, go_sem]) rfl ⟨o0, o1, o2, o3, o4, o5, rfl, HV.out, hd, ⟨r0.1, r1.1, r2.1, r3.1, r4.1, r5.1⟩, ?_⟩
          refine below_drewN ?_ m
          repeat (refine Below.setCell ?_ (by simp; omega) _)
          exact ((((Below.refl _ _).alloc (Nat.le_refl _) _).alloc (by simp) _).alloc (by simp; omega) _).alloc (by simp; omega) _
end Go.Proofs.Ytidklcjacejkaaa

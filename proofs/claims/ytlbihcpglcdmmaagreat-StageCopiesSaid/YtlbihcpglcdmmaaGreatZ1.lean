/-
  Contracts: what the document's own Top, Near and Add answer. Conditions: as each states.
  Contracts: the digits that the document's own Of and Times tell. Conditions: as each states.
  Contracts: what the document's own Through, Mul and Share answer, for all numbers. Conditions: as each states.
  Contracts: what the document's own is and Right answer. Conditions: as each states.
  Contract: what the document's own Fill answers. Conditions: as each states.
  Contracts: what the document's own Take and Most answer. Conditions: as each states.
  Contract: what the document's own Most answers. Conditions: as each states.
  Contract: what the document's own When answers. Conditions: as each states.
  Mathematics of buckets: ticks that pass one by one, the least tick, a greater rate or burst. Conditions: as each states.
-/
import Derived.Test.YtlbihcpglcdmmaaGreatChecked
import Derived.WalkKit
import Derived.Lib.Hide
import Derived.BigQuiet
import Derived.Deep.QuietTactic
import Derived.RegionTactic
import Derived.WalkSmall
import Derived.WalkMore
import Derived.Deep.Draws
import Derived.Deep.RegionHeld
import Derived.Deep.RegionHeldLaw
import Derived.IntWalk
import Derived.OneCell
import Derived.Deep.Cut
namespace Go.Proofs.YtlbihcpglcdmmaaGreat.gb
open Go.RowKit

/-- The right number that all calls take n as. -/
def near (n : Int) : Int := if n < 0 then 0 else if 1099511627776 < n then 1099511627776 else n
theorem near_range (n : Int) : 0 ≤ near n ∧ near n ≤ 1099511627776 := by unfold near; split <;> (try split) <;> omega
theorem near_of (n : Int) (h0 : 0 ≤ n) (h1 : n ≤ 1099511627776) : near n = n := by unfold near; split <;> (try split) <;> omega
theorem ret_int {k : IntKind} {a b : Int} (h : a = b) : Ending.returned (.int k a) = .returned (.int k b) := by rw [h]
theorem ret_bool {a b : Bool} (h : a = b) : Ending.returned (.bool a) = .returned (.bool b) := by rw [h]



set_option maxHeartbeats 400000 in
theorem rtop_any (w : World) : Calls Tryz.prog 42 #[] w fun e w' => e = .returned (.int .i64 1099511627776) ∧ w = w' := by
  go_enter Tryz.func42, Tryz.ntmps42
  go_wp2
  go_ret
  exact ⟨rfl, rfl⟩

set_option maxHeartbeats 400000 in
theorem rnear_any (n : Int) (w : World) : Calls Tryz.prog 19 #[.int .i64 n] w fun e w' => e = .returned (.int .i64 (near n)) ∧ w = w' := by
  go_enter Tryz.func19, Tryz.ntmps19
  go_wp2_with (go_at_call 42; refine (rtop_any _).mono ?_; rintro e w' ⟨rfl, rfl⟩)
  all_goals go_ret
  all_goals exact ⟨ret_int (by unfold near; (repeat' split at *) <;> omega), rfl⟩

set_option maxHeartbeats 400000 in
theorem radd_any (a b : Int) (w : World) : Calls Tryz.prog 52 #[.int .i64 a, .int .i64 b] w fun e w' => e = .returned (.int .i64 (near (near a + near b))) ∧ w = w' := by
  have ha := near_range a
  have hb := near_range b
  go_enter Tryz.func52, Tryz.ntmps52
  go_wp2_with (go_at_call 19; refine (rnear_any _ _).mono ?_; rintro e w' ⟨rfl, rfl⟩)
  go_ret
  exact ⟨rfl, rfl⟩

theorem prod_range (x y : Int) (hx : 0 ≤ x ∧ x ≤ 1099511627776) (hy : 0 ≤ y ∧ y ≤ 1099511627776) : 0 ≤ x * y ∧ x * y ≤ 1208925819614629174706176 :=
  ⟨Int.mul_nonneg hx.1 hy.1, by have := Int.mul_le_mul hx.2 hy.2 hy.1 (by omega); omega⟩


theorem near_nonneg (n : Int) (h : 0 ≤ n) : near n = if 1099511627776 < n then 1099511627776 else n := by unfold near; rw [if_neg (by omega)]
theorem seqB {w w1 w2 : World} (h1 : Below w.heap.size w w1) (h2 : Below w1.heap.size w1 w2) : Below w.heap.size w w2 := h1.trans (h2.mono h1.size)
theorem frozen_at {w : World} {g i : Nat} {cs : Array Value} {t : TypeId} (h : w.heap[g]? = some (.cells cs t (0, 0))) : w.frozen? ⟨g, i, none⟩ = false := by simp [World.frozen?, h]
theorem blk_lt {w : World} {g : Nat} {o : Obj} (h : w.heap[g]? = some o) : g < w.heap.size := (Array.getElem?_eq_some_iff.1 h).1
theorem drewN_below (w : World) (m : Nat) : Below w.heap.size w (w.drewN m) := ⟨rfl, rfl, rfl, Nat.le_refl _, fun _ _ => rfl⟩
end Go.Proofs.YtlbihcpglcdmmaaGreat.gb
namespace Go.Proofs.YtlbihcpglcdmmaaGreat.gb
open Go.RowKit

set_option maxHeartbeats 800000 in
theorem of_any (n : Int) (h0 : 0 ≤ n) (h1 : n ≤ 1099511627776) (w : World) : Calls Tryz.prog 104 #[.int .i64 n] w fun e w' => e = .returned (.agg #[.int .i64 (n % 1048576), .int .i64 (n / 1048576 % 1048576), .int .i64 (n / 1099511627776), .int .i64 0]) ∧ Below w.heap.size w w' := by
  go_enter Tryz.func104, Tryz.ntmps104
  go_wp2_with fail
  exact bodyPost_ret (v := .agg #[.int .i64 (n % 1048576), .int .i64 (n / 1048576 % 1048576), .int .i64 (n / 1099511627776), .int .i64 0]) (by simp [results, Tryz.results104, go_sem]) rfl ⟨rfl, (Below.refl _ _).alloc (Nat.le_refl _) _⟩

/-- What the first t rounds of the two loops have added, digit by digit. -/
def sumTo (a0 a1 a2 b0 b1 b2 : Int) : Nat → Int
  | 0 => 0
  | 1 => a0 * b0
  | 2 => a0 * b0 + a0 * b1 * 1048576
  | 3 => a0 * b0 + a0 * b1 * 1048576 + a0 * b2 * 1099511627776
  | 4 => a0 * b0 + a0 * b1 * 1048576 + a0 * b2 * 1099511627776 + a1 * b0 * 1048576
  | 5 => a0 * b0 + a0 * b1 * 1048576 + a0 * b2 * 1099511627776 + a1 * b0 * 1048576 + a1 * b1 * 1099511627776
  | 6 => a0 * b0 + a0 * b1 * 1048576 + a0 * b2 * 1099511627776 + a1 * b0 * 1048576 + a1 * b1 * 1099511627776 + a1 * b2 * 1152921504606846976
  | 7 => a0 * b0 + a0 * b1 * 1048576 + a0 * b2 * 1099511627776 + a1 * b0 * 1048576 + a1 * b1 * 1099511627776 + a1 * b2 * 1152921504606846976 + a2 * b0 * 1099511627776
  | 8 => a0 * b0 + a0 * b1 * 1048576 + a0 * b2 * 1099511627776 + a1 * b0 * 1048576 + a1 * b1 * 1099511627776 + a1 * b2 * 1152921504606846976 + a2 * b0 * 1099511627776 + a2 * b1 * 1152921504606846976
  | _ => a0 * b0 + a0 * b1 * 1048576 + a0 * b2 * 1099511627776 + a1 * b0 * 1048576 + a1 * b1 * 1099511627776 + a1 * b2 * 1152921504606846976 + a2 * b0 * 1099511627776 + a2 * b1 * 1152921504606846976 + a2 * b2 * 1208925819614629174706176
def val6 (o0 o1 o2 o3 o4 o5 : Int) : Int := o0 + o1 * 1048576 + o2 * 1099511627776 + o3 * 1152921504606846976 + o4 * 1208925819614629174706176 + o5 * 1267650600228229401496703205376
/-- The world of Times: both arguments boxed, the result's block, and 'out'. -/
def wTimes (w : World) (a0 a1 a2 b0 b1 b2 o0 o1 o2 o3 o4 o5 : Int) : World :=
  (((w.alloc (.cells #[.int .i64 a0, .int .i64 a1, .int .i64 a2, .int .i64 0] 133)).alloc (.cells #[.int .i64 b0, .int .i64 b1, .int .i64 b2, .int .i64 0] 133)).alloc (.cells #[.int .i64 0, .int .i64 0, .int .i64 0, .int .i64 0, .int .i64 0, .int .i64 0] 131)).alloc (.cells #[.int .i64 o0, .int .i64 o1, .int .i64 o2, .int .i64 o3, .int .i64 o4, .int .i64 o5] 131)

theorem set_drewN (w : World) (m : Nat) (a : Addr) (v : Value) : (w.drewN m).setCell a v = (w.setCell a v).drewN m := rfl
theorem set_out (w : World) (cs : Array Value) (t : TypeId) (n j : Nat) (v : Value) (m : Nat) (hn : n = w.heap.size) : ((w.alloc (.cells cs t)).drewN m).setCell ⟨n, j, none⟩ v = (w.alloc (.cells (cs.setIfInBounds j v) t)).drewN m := by
  rw [set_drewN, World.setCell_alloc_at _ _ _ _ _ hn]

/-- What Times tells: the product's digits. -/
def TimesPost (a0 a1 a2 b0 b1 b2 : Int) (w : World) (e : Ending) (w' : World) : Prop :=
  ∃ o0 o1 o2 o3 o4 o5 : Int, e = .returned (.agg #[.int .i64 o0, .int .i64 o1, .int .i64 o2, .int .i64 o3, .int .i64 o4, .int .i64 o5]) ∧ val6 o0 o1 o2 o3 o4 o5 = sumTo a0 a1 a2 b0 b1 b2 9 ∧
    (o0 < 1048576 ∧ o1 < 1048576 ∧ o2 < 1048576 ∧ o3 < 1048576 ∧ o4 < 1048576) ∧ (0 ≤ o0 ∧ 0 ≤ o1 ∧ 0 ≤ o2 ∧ 0 ≤ o3 ∧ 0 ≤ o4 ∧ 0 ≤ o5) ∧ Below w.heap.size w w'

set_option maxHeartbeats 4000000 in
theorem times_any (a0 a1 a2 b0 b1 b2 : Int) (w : World)
    (p00 : 0 ≤ a0 * b0 ∧ a0 * b0 ≤ 1099511627776) (p01 : 0 ≤ a0 * b1 ∧ a0 * b1 ≤ 1099511627776) (p02 : 0 ≤ a0 * b2 ∧ a0 * b2 ≤ 1099511627776)
    (p10 : 0 ≤ a1 * b0 ∧ a1 * b0 ≤ 1099511627776) (p11 : 0 ≤ a1 * b1 ∧ a1 * b1 ≤ 1099511627776) (p12 : 0 ≤ a1 * b2 ∧ a1 * b2 ≤ 1099511627776)
    (p20 : 0 ≤ a2 * b0 ∧ a2 * b0 ≤ 1099511627776) (p21 : 0 ≤ a2 * b1 ∧ a2 * b1 ≤ 1099511627776) (p22 : 0 ≤ a2 * b2 ∧ a2 * b2 ≤ 1099511627776) :
    Calls Tryz.prog 103 #[.agg #[.int .i64 a0, .int .i64 a1, .int .i64 a2, .int .i64 0], .agg #[.int .i64 b0, .int .i64 b1, .int .i64 b2, .int .i64 0]] w (TimesPost a0 a1 a2 b0 b1 b2 w) := by
  go_enter Tryz.func103, Tryz.ntmps103
  go_wp2_with fail
  go_loopw [6] (fun i w' => ∃ (n m : Nat) (z o0 o1 o2 o3 o4 o5 : Int), n ≤ 3 ∧ z = n ∧ i = .int .i64 z ∧ w' = (wTimes w a0 a1 a2 b0 b1 b2 o0 o1 o2 o3 o4 o5).drewN m ∧
      (0 ≤ o0 ∧ o0 ≤ z * 4000000000000) ∧ (0 ≤ o1 ∧ o1 ≤ z * 4000000000000) ∧ (0 ≤ o2 ∧ o2 ≤ z * 4000000000000) ∧ (0 ≤ o3 ∧ o3 ≤ z * 4000000000000) ∧ (0 ≤ o4 ∧ o4 ≤ z * 4000000000000) ∧ (0 ≤ o5 ∧ o5 ≤ z * 4000000000000) ∧ Hid (val6 o0 o1 o2 o3 o4 o5 = sumTo a0 a1 a2 b0 b1 b2 (3 * n))) (fun i _ => 3 - (intOf i).toNat)
  case atStart => exact ⟨0, 0, 0, 0, 0, 0, 0, 0, 0, by omega, rfl, rfl, rfl, by omega, by omega, by omega, by omega, by omega, by omega, rfl⟩
  case round =>
    obtain ⟨n, m, z, o0, o1, o2, o3, o4, o5, hn, hz, rfl, rfl, r0, r1, r2, r3, r4, r5, HV⟩ := hrel
    have hn : n = 0 ∨ n = 1 ∨ n = 2 ∨ n = 3 := by omega
    unfold wTimes
    rcases hn with rfl | rfl | rfl | rfl
    · obtain rfl : z = 0 := hz
      go_wp2_with fail
      go_loopw [7] (fun k w' => ∃ (q m : Nat) (y o0 o1 o2 o3 o4 o5 : Int), q ≤ 3 ∧ y = q ∧ k = .int .i64 y ∧ w' = (wTimes w a0 a1 a2 b0 b1 b2 o0 o1 o2 o3 o4 o5).drewN m ∧
        (0 ≤ o0 ∧ o0 ≤ 0 * 4000000000000 + y * 1200000000000) ∧ (0 ≤ o1 ∧ o1 ≤ 0 * 4000000000000 + y * 1200000000000) ∧ (0 ≤ o2 ∧ o2 ≤ 0 * 4000000000000 + y * 1200000000000) ∧ (0 ≤ o3 ∧ o3 ≤ 0 * 4000000000000 + y * 1200000000000) ∧ (0 ≤ o4 ∧ o4 ≤ 0 * 4000000000000 + y * 1200000000000) ∧ (0 ≤ o5 ∧ o5 ≤ 0 * 4000000000000 + y * 1200000000000) ∧ Hid (val6 o0 o1 o2 o3 o4 o5 = sumTo a0 a1 a2 b0 b1 b2 (3 * 0 + q))) (fun k _ => 3 - (intOf k).toNat)
      case atStart => exact ⟨0, _, 0, _, _, _, _, _, _, by omega, rfl, rfl, rfl, by omega, by omega, by omega, by omega, by omega, by omega, HV.out⟩
      case round =>
        clear r0 r1 r2 r3 r4 r5 HV
        obtain ⟨q, m, y, o0, o1, o2, o3, o4, o5, hq, hy, rfl, rfl, r0, r1, r2, r3, r4, r5, HV⟩ := hrel
        have hq : q = 0 ∨ q = 1 ∨ q = 2 ∨ q = 3 := by omega
        unfold wTimes
        rcases hq with rfl | rfl | rfl | rfl
        · obtain rfl : y = 0 := hy
          have HV' := Lib.hid (show val6 (o0 + a0 * b0) o1 o2 o3 o4 o5 = sumTo a0 a1 a2 b0 b1 b2 (3 * 0 + 0 + 1) by have := HV.out; simp only [val6, sumTo] at *; omega)
          go_wp2_with fail
          go_region
          all_goals go_wp2_with fail
          all_goals go_roundw
          case rel => exact ⟨1, _, 1, _, _, _, _, _, _, by omega, rfl, rfl, (set_out _ _ _ _ _ _ _ (by simp)).trans rfl, by omega, by omega, by omega, by omega, by omega, by omega, HV'.out⟩
          case measure => simp [intOf]
        · obtain rfl : y = 1 := hy
          have HV' := Lib.hid (show val6 o0 (o1 + a0 * b1) o2 o3 o4 o5 = sumTo a0 a1 a2 b0 b1 b2 (3 * 0 + 1 + 1) by have := HV.out; simp only [val6, sumTo] at *; omega)
          go_wp2_with fail
          go_region
          all_goals go_wp2_with fail
          all_goals go_roundw
          case rel => exact ⟨2, _, 2, _, _, _, _, _, _, by omega, rfl, rfl, (set_out _ _ _ _ _ _ _ (by simp)).trans rfl, by omega, by omega, by omega, by omega, by omega, by omega, HV'.out⟩
          case measure => simp [intOf]
        · obtain rfl : y = 2 := hy
          have HV' := Lib.hid (show val6 o0 o1 (o2 + a0 * b2) o3 o4 o5 = sumTo a0 a1 a2 b0 b1 b2 (3 * 0 + 2 + 1) by have := HV.out; simp only [val6, sumTo] at *; omega)
          go_wp2_with fail
          go_region
          all_goals go_wp2_with fail
          all_goals go_roundw
          case rel => exact ⟨3, _, 3, _, _, _, _, _, _, by omega, rfl, rfl, (set_out _ _ _ _ _ _ _ (by simp)).trans rfl, by omega, by omega, by omega, by omega, by omega, by omega, HV'.out⟩
          case measure => simp [intOf]
        · obtain rfl : y = 3 := hy
          go_wp2_with fail
          go_roundw
          case rel => exact ⟨1, _, 1, _, _, _, _, _, _, by omega, rfl, rfl, rfl, by omega, by omega, by omega, by omega, by omega, by omega, HV.out⟩
          case measure => simp [intOf]
    · obtain rfl : z = 1 := hz
      go_wp2_with fail
      go_loopw [7] (fun k w' => ∃ (q m : Nat) (y o0 o1 o2 o3 o4 o5 : Int), q ≤ 3 ∧ y = q ∧ k = .int .i64 y ∧ w' = (wTimes w a0 a1 a2 b0 b1 b2 o0 o1 o2 o3 o4 o5).drewN m ∧
        (0 ≤ o0 ∧ o0 ≤ 1 * 4000000000000 + y * 1200000000000) ∧ (0 ≤ o1 ∧ o1 ≤ 1 * 4000000000000 + y * 1200000000000) ∧ (0 ≤ o2 ∧ o2 ≤ 1 * 4000000000000 + y * 1200000000000) ∧ (0 ≤ o3 ∧ o3 ≤ 1 * 4000000000000 + y * 1200000000000) ∧ (0 ≤ o4 ∧ o4 ≤ 1 * 4000000000000 + y * 1200000000000) ∧ (0 ≤ o5 ∧ o5 ≤ 1 * 4000000000000 + y * 1200000000000) ∧ Hid (val6 o0 o1 o2 o3 o4 o5 = sumTo a0 a1 a2 b0 b1 b2 (3 * 1 + q))) (fun k _ => 3 - (intOf k).toNat)
      case atStart => exact ⟨0, _, 0, _, _, _, _, _, _, by omega, rfl, rfl, rfl, by omega, by omega, by omega, by omega, by omega, by omega, HV.out⟩
      case round =>
        clear r0 r1 r2 r3 r4 r5 HV
        obtain ⟨q, m, y, o0, o1, o2, o3, o4, o5, hq, hy, rfl, rfl, r0, r1, r2, r3, r4, r5, HV⟩ := hrel
        have hq : q = 0 ∨ q = 1 ∨ q = 2 ∨ q = 3 := by omega
        unfold wTimes
        rcases hq with rfl | rfl | rfl | rfl
        · obtain rfl : y = 0 := hy
          have HV' := Lib.hid (show val6 o0 (o1 + a1 * b0) o2 o3 o4 o5 = sumTo a0 a1 a2 b0 b1 b2 (3 * 1 + 0 + 1) by have := HV.out; simp only [val6, sumTo] at *; omega)
          go_wp2_with fail
          go_region
          all_goals go_wp2_with fail
          all_goals go_roundw
          case rel => exact ⟨1, _, 1, _, _, _, _, _, _, by omega, rfl, rfl, (set_out _ _ _ _ _ _ _ (by simp)).trans rfl, by omega, by omega, by omega, by omega, by omega, by omega, HV'.out⟩
          case measure => simp [intOf]
        · obtain rfl : y = 1 := hy
          have HV' := Lib.hid (show val6 o0 o1 (o2 + a1 * b1) o3 o4 o5 = sumTo a0 a1 a2 b0 b1 b2 (3 * 1 + 1 + 1) by have := HV.out; simp only [val6, sumTo] at *; omega)
          go_wp2_with fail
          go_region
          all_goals go_wp2_with fail
          all_goals go_roundw
          case rel => exact ⟨2, _, 2, _, _, _, _, _, _, by omega, rfl, rfl, (set_out _ _ _ _ _ _ _ (by simp)).trans rfl, by omega, by omega, by omega, by omega, by omega, by omega, HV'.out⟩
          case measure => simp [intOf]
        · obtain rfl : y = 2 := hy
          have HV' := Lib.hid (show val6 o0 o1 o2 (o3 + a1 * b2) o4 o5 = sumTo a0 a1 a2 b0 b1 b2 (3 * 1 + 2 + 1) by have := HV.out; simp only [val6, sumTo] at *; omega)
          go_wp2_with fail
          go_region
          all_goals go_wp2_with fail
          all_goals go_roundw
          case rel => exact ⟨3, _, 3, _, _, _, _, _, _, by omega, rfl, rfl, (set_out _ _ _ _ _ _ _ (by simp)).trans rfl, by omega, by omega, by omega, by omega, by omega, by omega, HV'.out⟩
          case measure => simp [intOf]
        · obtain rfl : y = 3 := hy
          go_wp2_with fail
          go_roundw
          case rel => exact ⟨2, _, 2, _, _, _, _, _, _, by omega, rfl, rfl, rfl, by omega, by omega, by omega, by omega, by omega, by omega, HV.out⟩
          case measure => simp [intOf]
    · obtain rfl : z = 2 := hz
      go_wp2_with fail
      go_loopw [7] (fun k w' => ∃ (q m : Nat) (y o0 o1 o2 o3 o4 o5 : Int), q ≤ 3 ∧ y = q ∧ k = .int .i64 y ∧ w' = (wTimes w a0 a1 a2 b0 b1 b2 o0 o1 o2 o3 o4 o5).drewN m ∧
        (0 ≤ o0 ∧ o0 ≤ 2 * 4000000000000 + y * 1200000000000) ∧ (0 ≤ o1 ∧ o1 ≤ 2 * 4000000000000 + y * 1200000000000) ∧ (0 ≤ o2 ∧ o2 ≤ 2 * 4000000000000 + y * 1200000000000) ∧ (0 ≤ o3 ∧ o3 ≤ 2 * 4000000000000 + y * 1200000000000) ∧ (0 ≤ o4 ∧ o4 ≤ 2 * 4000000000000 + y * 1200000000000) ∧ (0 ≤ o5 ∧ o5 ≤ 2 * 4000000000000 + y * 1200000000000) ∧ Hid (val6 o0 o1 o2 o3 o4 o5 = sumTo a0 a1 a2 b0 b1 b2 (3 * 2 + q))) (fun k _ => 3 - (intOf k).toNat)
      case atStart => exact ⟨0, _, 0, _, _, _, _, _, _, by omega, rfl, rfl, rfl, by omega, by omega, by omega, by omega, by omega, by omega, HV.out⟩
      case round =>
        clear r0 r1 r2 r3 r4 r5 HV
        obtain ⟨q, m, y, o0, o1, o2, o3, o4, o5, hq, hy, rfl, rfl, r0, r1, r2, r3, r4, r5, HV⟩ := hrel
        have hq : q = 0 ∨ q = 1 ∨ q = 2 ∨ q = 3 := by omega
        unfold wTimes
        rcases hq with rfl | rfl | rfl | rfl
        · obtain rfl : y = 0 := hy
          have HV' := Lib.hid (show val6 o0 o1 (o2 + a2 * b0) o3 o4 o5 = sumTo a0 a1 a2 b0 b1 b2 (3 * 2 + 0 + 1) by have := HV.out; simp only [val6, sumTo] at *; omega)
          go_wp2_with fail
          go_region
          all_goals go_wp2_with fail
          all_goals go_roundw
          case rel => exact ⟨1, _, 1, _, _, _, _, _, _, by omega, rfl, rfl, (set_out _ _ _ _ _ _ _ (by simp)).trans rfl, by omega, by omega, by omega, by omega, by omega, by omega, HV'.out⟩
          case measure => simp [intOf]
        · obtain rfl : y = 1 := hy
          have HV' := Lib.hid (show val6 o0 o1 o2 (o3 + a2 * b1) o4 o5 = sumTo a0 a1 a2 b0 b1 b2 (3 * 2 + 1 + 1) by have := HV.out; simp only [val6, sumTo] at *; omega)
          go_wp2_with fail
          go_region
          all_goals go_wp2_with fail
          all_goals go_roundw
          case rel => exact ⟨2, _, 2, _, _, _, _, _, _, by omega, rfl, rfl, (set_out _ _ _ _ _ _ _ (by simp)).trans rfl, by omega, by omega, by omega, by omega, by omega, by omega, HV'.out⟩
          case measure => simp [intOf]
        · obtain rfl : y = 2 := hy
          have HV' := Lib.hid (show val6 o0 o1 o2 o3 (o4 + a2 * b2) o5 = sumTo a0 a1 a2 b0 b1 b2 (3 * 2 + 2 + 1) by have := HV.out; simp only [val6, sumTo] at *; omega)
          go_wp2_with fail
          go_region
          all_goals go_wp2_with fail
          all_goals go_roundw
          case rel => exact ⟨3, _, 3, _, _, _, _, _, _, by omega, rfl, rfl, (set_out _ _ _ _ _ _ _ (by simp)).trans rfl, by omega, by omega, by omega, by omega, by omega, by omega, HV'.out⟩
          case measure => simp [intOf]
        · obtain rfl : y = 3 := hy
          go_wp2_with fail
          go_roundw
          case rel => exact ⟨3, _, 3, _, _, _, _, _, _, by omega, rfl, rfl, rfl, by omega, by omega, by omega, by omega, by omega, by omega, HV.out⟩
          case measure => simp [intOf]
    · obtain rfl : z = 3 := hz
      go_wp2_with fail
      go_loopw [8] (fun k w' => ∃ (q m : Nat) (y o0 o1 o2 o3 o4 o5 : Int), q ≤ 5 ∧ y = q ∧ k = .int .i64 y ∧ w' = (wTimes w a0 a1 a2 b0 b1 b2 o0 o1 o2 o3 o4 o5).drewN m ∧
        (0 ≤ o0 ∧ o0 ≤ 13000000000000 + y * 14000000) ∧ (0 ≤ o1 ∧ o1 ≤ 13000000000000 + y * 14000000) ∧ (0 ≤ o2 ∧ o2 ≤ 13000000000000 + y * 14000000) ∧ (0 ≤ o3 ∧ o3 ≤ 13000000000000 + y * 14000000) ∧ (0 ≤ o4 ∧ o4 ≤ 13000000000000 + y * 14000000) ∧ (0 ≤ o5 ∧ o5 ≤ 13000000000000 + y * 14000000) ∧ Hid (val6 o0 o1 o2 o3 o4 o5 = sumTo a0 a1 a2 b0 b1 b2 9) ∧ Hid ((0 < q → o0 < 1048576) ∧ (1 < q → o1 < 1048576) ∧ (2 < q → o2 < 1048576) ∧ (3 < q → o3 < 1048576) ∧ (4 < q → o4 < 1048576))) (fun k _ => 5 - (intOf k).toNat)
      case atStart => exact ⟨0, _, 0, _, _, _, _, _, _, by omega, rfl, rfl, rfl, by omega, by omega, by omega, by omega, by omega, by omega, HV.out, by refine ⟨?_, ?_, ?_, ?_, ?_⟩ <;> (intro h; omega)⟩
      case round =>
        clear r0 r1 r2 r3 r4 r5 HV
        obtain ⟨q, m, y, o0, o1, o2, o3, o4, o5, hq, hy, rfl, rfl, r0, r1, r2, r3, r4, r5, HV, HC⟩ := hrel
        have hq : q = 0 ∨ q = 1 ∨ q = 2 ∨ q = 3 ∨ q = 4 ∨ q = 5 := by omega
        unfold wTimes
        rcases hq with rfl | rfl | rfl | rfl | rfl | rfl
        · obtain rfl : y = 0 := hy
          have HV' := Lib.hid (show val6 (o0 % 1048576) (o1 + o0 / 1048576) o2 o3 o4 o5 = sumTo a0 a1 a2 b0 b1 b2 9 by have := HV.out; simp only [val6] at *; omega)
          go_wp2_with fail
          go_region
          all_goals rw [set_out _ _ _ _ _ _ _ (by simp)]
          all_goals simp only [List.setIfInBounds_toArray, List.set]
          all_goals go_wp2_with fail
          all_goals go_roundw
          case rel => exact ⟨1, _, 1, _, _, _, _, _, _, by omega, rfl, rfl, (set_out _ _ _ _ _ _ _ (by simp)).trans rfl, by omega, by omega, by omega, by omega, by omega, by omega, HV'.out, by have := HC.out; refine ⟨?_, ?_, ?_, ?_, ?_⟩ <;> (intro h; omega)⟩
          case measure => simp [intOf]
        · obtain rfl : y = 1 := hy
          have HV' := Lib.hid (show val6 o0 (o1 % 1048576) (o2 + o1 / 1048576) o3 o4 o5 = sumTo a0 a1 a2 b0 b1 b2 9 by have := HV.out; simp only [val6] at *; omega)
          go_wp2_with fail
          go_region
          all_goals rw [set_out _ _ _ _ _ _ _ (by simp)]
          all_goals simp only [List.setIfInBounds_toArray, List.set]
          all_goals go_wp2_with fail
          all_goals go_roundw
          case rel => exact ⟨2, _, 2, _, _, _, _, _, _, by omega, rfl, rfl, (set_out _ _ _ _ _ _ _ (by simp)).trans rfl, by omega, by omega, by omega, by omega, by omega, by omega, HV'.out, by have := HC.out; refine ⟨?_, ?_, ?_, ?_, ?_⟩ <;> (intro h; omega)⟩
          case measure => simp [intOf]
        · obtain rfl : y = 2 := hy
          have HV' := Lib.hid (show val6 o0 o1 (o2 % 1048576) (o3 + o2 / 1048576) o4 o5 = sumTo a0 a1 a2 b0 b1 b2 9 by have := HV.out; simp only [val6] at *; omega)
          go_wp2_with fail
          go_region
          all_goals rw [set_out _ _ _ _ _ _ _ (by simp)]
          all_goals simp only [List.setIfInBounds_toArray, List.set]
          all_goals go_wp2_with fail
          all_goals go_roundw
          case rel => exact ⟨3, _, 3, _, _, _, _, _, _, by omega, rfl, rfl, (set_out _ _ _ _ _ _ _ (by simp)).trans rfl, by omega, by omega, by omega, by omega, by omega, by omega, HV'.out, by have := HC.out; refine ⟨?_, ?_, ?_, ?_, ?_⟩ <;> (intro h; omega)⟩
          case measure => simp [intOf]
        · obtain rfl : y = 3 := hy
          have HV' := Lib.hid (show val6 o0 o1 o2 (o3 % 1048576) (o4 + o3 / 1048576) o5 = sumTo a0 a1 a2 b0 b1 b2 9 by have := HV.out; simp only [val6] at *; omega)
          go_wp2_with fail
          go_region
          all_goals rw [set_out _ _ _ _ _ _ _ (by simp)]
          all_goals simp only [List.setIfInBounds_toArray, List.set]
          all_goals go_wp2_with fail
          all_goals go_roundw
          case rel => exact ⟨4, _, 4, _, _, _, _, _, _, by omega, rfl, rfl, (set_out _ _ _ _ _ _ _ (by simp)).trans rfl, by omega, by omega, by omega, by omega, by omega, by omega, HV'.out, by have := HC.out; refine ⟨?_, ?_, ?_, ?_, ?_⟩ <;> (intro h; omega)⟩
          case measure => simp [intOf]
        · obtain rfl : y = 4 := hy
          have HV' := Lib.hid (show val6 o0 o1 o2 o3 (o4 % 1048576) (o5 + o4 / 1048576) = sumTo a0 a1 a2 b0 b1 b2 9 by have := HV.out; simp only [val6] at *; omega)
          go_wp2_with fail
          go_region
          all_goals rw [set_out _ _ _ _ _ _ _ (by simp)]
          all_goals simp only [List.setIfInBounds_toArray, List.set]
          all_goals go_wp2_with fail
          all_goals go_roundw
          case rel => exact ⟨5, _, 5, _, _, _, _, _, _, by omega, rfl, rfl, (set_out _ _ _ _ _ _ _ (by simp)).trans rfl, by omega, by omega, by omega, by omega, by omega, by omega, HV'.out, by have := HC.out; refine ⟨?_, ?_, ?_, ?_, ?_⟩ <;> (intro h; omega)⟩
          case measure => simp [intOf]
        · obtain rfl : y = 5 := hy
          have hc := HC.out
          have hd : o0 < 1048576 ∧ o1 < 1048576 ∧ o2 < 1048576 ∧ o3 < 1048576 ∧ o4 < 1048576 := ⟨hc.1 (by omega), hc.2.1 (by omega), hc.2.2.1 (by omega), hc.2.2.2.1 (by omega), hc.2.2.2.2 (by omega)⟩
          clear hc
          go_wp2_with fail
          simp only [set_drewN]
          refine bodyPost_ret (v := .agg #[.int .i64 o0, .int .i64 o1, .int .i64 o2, .int .i64 o3, .int .i64 o4, .int .i64 o5]) (by simp [results, Tryz.results103, go_sem]) rfl ⟨o0, o1, o2, o3, o4, o5, rfl, HV.out, hd, ⟨r0.1, r1.1, r2.1, r3.1, r4.1, r5.1⟩, ?_⟩
          refine below_drewN ?_ m
          repeat (refine Below.setCell ?_ (by simp; omega) _)
          exact ((((Below.refl _ _).alloc (Nat.le_refl _) _).alloc (by simp) _).alloc (by simp; omega) _).alloc (by simp; omega) _
end Go.Proofs.YtlbihcpglcdmmaaGreat.gb
namespace Go.Proofs.YtlbihcpglcdmmaaGreat.gb
open Go.RowKit

def throughF (v c : Int) : Int := if v / c ≤ 1099511627776 then v / c else 1099511627776

/-- The value of the digits from the n-th on. -/
def pv (d0 d1 d2 d3 d4 d5 : Int) : Nat → Int
  | 0 => (((((d5 * 1048576 + d4) * 1048576 + d3) * 1048576 + d2) * 1048576 + d1) * 1048576 + d0)
  | 1 => ((((d5 * 1048576 + d4) * 1048576 + d3) * 1048576 + d2) * 1048576 + d1)
  | 2 => (((d5 * 1048576 + d4) * 1048576 + d3) * 1048576 + d2)
  | 3 => ((d5 * 1048576 + d4) * 1048576 + d3)
  | 4 => (d5 * 1048576 + d4)
  | 5 => d5
  | _ => 0

theorem pv_le (d0 d1 d2 d3 d4 d5 : Int) (h : 0 ≤ d0 ∧ 0 ≤ d1 ∧ 0 ≤ d2 ∧ 0 ≤ d3 ∧ 0 ≤ d4 ∧ 0 ≤ d5) (n : Nat) : 0 ≤ pv d0 d1 d2 d3 d4 d5 n ∧ pv d0 d1 d2 d3 d4 d5 n ≤ pv d0 d1 d2 d3 d4 d5 0 := by
  match n with
  | 0 | 1 | 2 | 3 | 4 | 5 => simp only [pv]; omega
  | n + 6 => simp only [pv]; omega

theorem div_of (p c q r : Int) (hc : 1 ≤ c) (h : p = q * c + r) (h0 : 0 ≤ r) (h1 : r < c) : p / c = q := by
  rw [h, Int.add_comm, Int.add_mul_ediv_right _ _ (by omega), Int.ediv_eq_zero_of_lt h0 h1]; omega
theorem step_div (p q r c d : Int) (h : p = q * c + r) : p * 1048576 + d = (q * 1048576 + (r * 1048576 + d) / c) * c + (r * 1048576 + d) % c := by
  have e := Int.mul_ediv_add_emod (r * 1048576 + d) c
  rw [Int.add_mul, h, Int.add_mul]
  have e2 : q * c * 1048576 = q * 1048576 * c := by rw [Int.mul_assoc, Int.mul_comm c, Int.mul_assoc]
  rw [Int.mul_comm c] at e
  omega
theorem over_top (v p c q r : Int) (hc : 1 ≤ c) (h : p = q * c + r) (h0 : 0 ≤ r) (h1 : r < c) (hv : p ≤ v) (hq : 1099511627776 < q) : throughF v c = 1099511627776 := by
  unfold throughF
  rw [if_neg]
  have := div_of p c q r hc h h0 h1
  have := Int.ediv_le_ediv (show 0 < c by omega) hv
  omega
theorem end_top (v c q r : Int) (hc : 1 ≤ c) (h : v = q * c + r) (h0 : 0 ≤ r) (h1 : r < c) (hq : q ≤ 1099511627776) : throughF v c = q := by
  unfold throughF
  rw [div_of v c q r hc h h0 h1, if_pos hq]

set_option maxRecDepth 100000 in
set_option maxHeartbeats 4000000 in
theorem through_any (d0 d1 d2 d3 d4 d5 c : Int) (hd : d0 < 1048576 ∧ d1 < 1048576 ∧ d2 < 1048576 ∧ d3 < 1048576 ∧ d4 < 1048576) (hd0 : 0 ≤ d0 ∧ 0 ≤ d1 ∧ 0 ≤ d2 ∧ 0 ≤ d3 ∧ 0 ≤ d4 ∧ 0 ≤ d5) (h5 : d5 < 1048576) (hc : 1 ≤ c) (hc1 : c ≤ 1099511627776) (w : World) :
    Calls Tryz.prog 102 #[.agg #[.int .i64 d0, .int .i64 d1, .int .i64 d2, .int .i64 d3, .int .i64 d4, .int .i64 d5], .int .i64 c] w fun e w' => e = .returned (.int .i64 (throughF (pv d0 d1 d2 d3 d4 d5 0) c)) ∧ Below w.heap.size w w' := by
  have c0 : (c == 0) = false := by simp; omega
  have HP := Lib.hid (pv_le d0 d1 d2 d3 d4 d5 hd0)
  go_enter Tryz.func102, Tryz.ntmps102
  go_wp2_with fail
  go_loop [5, 6, 7] (fun o r i => ∃ (n : Nat) (y out rest : Int), n ≤ 6 ∧ y = (n : Int) - 1 ∧ i = .int .i64 y ∧ o = .int .i64 out ∧ r = .int .i64 rest ∧ 0 ≤ rest ∧ rest < c ∧ 0 ≤ out ∧ out ≤ 1099511627776 ∧ Hid (pv d0 d1 d2 d3 d4 d5 n = out * c + rest)) (fun _ _ i => (intOf i + 1).toNat)
  case atStart => exact ⟨6, 5, 0, 0, by omega, by omega, rfl, rfl, rfl, by omega, by omega, by omega, by omega, by show (0 : Int) = 0 * c + 0; omega⟩
  case round =>
    obtain ⟨n, y, out, rest, hn, hy, rfl, rfl, rfl, hr0, hr1, ho0, ho1, HV⟩ := hrel
    have hn : n = 0 ∨ n = 1 ∨ n = 2 ∨ n = 3 ∨ n = 4 ∨ n = 5 ∨ n = 6 := by omega
    have q0 : ∀ d, 0 ≤ d → 0 ≤ (rest * 1048576 + d) / c := fun d h => Int.ediv_nonneg (by omega) (by omega)
    have q1 : ∀ d, d < 1048576 → (rest * 1048576 + d) / c < 1048576 := fun d h => Int.ediv_lt_of_lt_mul (by omega) (by omega)
    have m0 : ∀ d, 0 ≤ (rest * 1048576 + d) % c := fun d => Int.emod_nonneg _ (by omega)
    have m1 : ∀ d, (rest * 1048576 + d) % c < c := fun d => Int.emod_lt_of_pos _ (by omega)
    rcases hn with rfl | rfl | rfl | rfl | rfl | rfl | rfl
    · obtain rfl : y = -1 := by omega
      clear hy
      have HE := Lib.hid (end_top _ _ _ _ hc HV.out hr0 hr1 ho1)
      clear q0 q1 m0 m1 HV HP
      go_wp2_with fail
      go_ret
      exact ⟨ret_int HE.out.symm, (Below.refl _ _).alloc (Nat.le_refl _) _⟩
    · obtain rfl : y = 0 := by omega
      clear hy
      have a1 := q0 d0 (by omega)
      have a2 := q1 d0 (by omega)
      have a3 := m0 d0
      have a4 := m1 d0
      have HS := Lib.hid (show pv d0 d1 d2 d3 d4 d5 0 = (out * 1048576 + (rest * 1048576 + d0) / c) * c + (rest * 1048576 + d0) % c by
        rw [show pv d0 d1 d2 d3 d4 d5 0 = pv d0 d1 d2 d3 d4 d5 1 * 1048576 + d0 by simp only [pv] <;> omega]; exact step_div _ _ _ _ _ HV.out)
      clear q0 q1 m0 m1 HV
      by_cases top : 1099511627776 < out * 1048576 + (rest * 1048576 + d0) / c
      · have HE := Lib.hid (over_top _ _ _ _ _ hc HS.out a3 a4 (HP.out 0).2 top)
        clear HS HP
        go_wp2_with (go_at_call 42; refine (rtop_any _).mono ?_; rintro e w' ⟨rfl, rfl⟩)
        go_ret
        exact ⟨ret_int HE.out.symm, (Below.refl _ _).alloc (Nat.le_refl _) _⟩
      · clear HP
        go_wp2_with (go_at_call 42; refine (rtop_any _).mono ?_; rintro e w' ⟨rfl, rfl⟩)
        go_round
        case rel => exact ⟨0, -1, _, _, by omega, by omega, rfl, rfl, rfl, a3, a4, by omega, by omega, HS.out⟩
        case measure => simp [intOf]
    · obtain rfl : y = 1 := by omega
      clear hy
      have a1 := q0 d1 (by omega)
      have a2 := q1 d1 (by omega)
      have a3 := m0 d1
      have a4 := m1 d1
      have HS := Lib.hid (show pv d0 d1 d2 d3 d4 d5 1 = (out * 1048576 + (rest * 1048576 + d1) / c) * c + (rest * 1048576 + d1) % c by
        rw [show pv d0 d1 d2 d3 d4 d5 1 = pv d0 d1 d2 d3 d4 d5 2 * 1048576 + d1 by simp only [pv] <;> omega]; exact step_div _ _ _ _ _ HV.out)
      clear q0 q1 m0 m1 HV
      by_cases top : 1099511627776 < out * 1048576 + (rest * 1048576 + d1) / c
      · have HE := Lib.hid (over_top _ _ _ _ _ hc HS.out a3 a4 (HP.out 1).2 top)
        clear HS HP
        go_wp2_with (go_at_call 42; refine (rtop_any _).mono ?_; rintro e w' ⟨rfl, rfl⟩)
        go_ret
        exact ⟨ret_int HE.out.symm, (Below.refl _ _).alloc (Nat.le_refl _) _⟩
      · clear HP
        go_wp2_with (go_at_call 42; refine (rtop_any _).mono ?_; rintro e w' ⟨rfl, rfl⟩)
        go_round
        case rel => exact ⟨1, 0, _, _, by omega, by omega, rfl, rfl, rfl, a3, a4, by omega, by omega, HS.out⟩
        case measure => simp [intOf]
    · obtain rfl : y = 2 := by omega
      clear hy
      have a1 := q0 d2 (by omega)
      have a2 := q1 d2 (by omega)
      have a3 := m0 d2
      have a4 := m1 d2
      have HS := Lib.hid (show pv d0 d1 d2 d3 d4 d5 2 = (out * 1048576 + (rest * 1048576 + d2) / c) * c + (rest * 1048576 + d2) % c by
        rw [show pv d0 d1 d2 d3 d4 d5 2 = pv d0 d1 d2 d3 d4 d5 3 * 1048576 + d2 by simp only [pv] <;> omega]; exact step_div _ _ _ _ _ HV.out)
      clear q0 q1 m0 m1 HV
      by_cases top : 1099511627776 < out * 1048576 + (rest * 1048576 + d2) / c
      · have HE := Lib.hid (over_top _ _ _ _ _ hc HS.out a3 a4 (HP.out 2).2 top)
        clear HS HP
        go_wp2_with (go_at_call 42; refine (rtop_any _).mono ?_; rintro e w' ⟨rfl, rfl⟩)
        go_ret
        exact ⟨ret_int HE.out.symm, (Below.refl _ _).alloc (Nat.le_refl _) _⟩
      · clear HP
        go_wp2_with (go_at_call 42; refine (rtop_any _).mono ?_; rintro e w' ⟨rfl, rfl⟩)
        go_round
        case rel => exact ⟨2, 1, _, _, by omega, by omega, rfl, rfl, rfl, a3, a4, by omega, by omega, HS.out⟩
        case measure => simp [intOf]
    · obtain rfl : y = 3 := by omega
      clear hy
      have a1 := q0 d3 (by omega)
      have a2 := q1 d3 (by omega)
      have a3 := m0 d3
      have a4 := m1 d3
      have HS := Lib.hid (show pv d0 d1 d2 d3 d4 d5 3 = (out * 1048576 + (rest * 1048576 + d3) / c) * c + (rest * 1048576 + d3) % c by
        rw [show pv d0 d1 d2 d3 d4 d5 3 = pv d0 d1 d2 d3 d4 d5 4 * 1048576 + d3 by simp only [pv] <;> omega]; exact step_div _ _ _ _ _ HV.out)
      clear q0 q1 m0 m1 HV
      by_cases top : 1099511627776 < out * 1048576 + (rest * 1048576 + d3) / c
      · have HE := Lib.hid (over_top _ _ _ _ _ hc HS.out a3 a4 (HP.out 3).2 top)
        clear HS HP
        go_wp2_with (go_at_call 42; refine (rtop_any _).mono ?_; rintro e w' ⟨rfl, rfl⟩)
        go_ret
        exact ⟨ret_int HE.out.symm, (Below.refl _ _).alloc (Nat.le_refl _) _⟩
      · clear HP
        go_wp2_with (go_at_call 42; refine (rtop_any _).mono ?_; rintro e w' ⟨rfl, rfl⟩)
        go_round
        case rel => exact ⟨3, 2, _, _, by omega, by omega, rfl, rfl, rfl, a3, a4, by omega, by omega, HS.out⟩
        case measure => simp [intOf]
    · obtain rfl : y = 4 := by omega
      clear hy
      have a1 := q0 d4 (by omega)
      have a2 := q1 d4 (by omega)
      have a3 := m0 d4
      have a4 := m1 d4
      have HS := Lib.hid (show pv d0 d1 d2 d3 d4 d5 4 = (out * 1048576 + (rest * 1048576 + d4) / c) * c + (rest * 1048576 + d4) % c by
        rw [show pv d0 d1 d2 d3 d4 d5 4 = pv d0 d1 d2 d3 d4 d5 5 * 1048576 + d4 by simp only [pv] <;> omega]; exact step_div _ _ _ _ _ HV.out)
      clear q0 q1 m0 m1 HV
      by_cases top : 1099511627776 < out * 1048576 + (rest * 1048576 + d4) / c
      · have HE := Lib.hid (over_top _ _ _ _ _ hc HS.out a3 a4 (HP.out 4).2 top)
        clear HS HP
        go_wp2_with (go_at_call 42; refine (rtop_any _).mono ?_; rintro e w' ⟨rfl, rfl⟩)
        go_ret
        exact ⟨ret_int HE.out.symm, (Below.refl _ _).alloc (Nat.le_refl _) _⟩
      · clear HP
        go_wp2_with (go_at_call 42; refine (rtop_any _).mono ?_; rintro e w' ⟨rfl, rfl⟩)
        go_round
        case rel => exact ⟨4, 3, _, _, by omega, by omega, rfl, rfl, rfl, a3, a4, by omega, by omega, HS.out⟩
        case measure => simp [intOf]
    · obtain rfl : y = 5 := by omega
      clear hy
      have a1 := q0 d5 (by omega)
      have a2 := q1 d5 (by omega)
      have a3 := m0 d5
      have a4 := m1 d5
      have HS := Lib.hid (show pv d0 d1 d2 d3 d4 d5 5 = (out * 1048576 + (rest * 1048576 + d5) / c) * c + (rest * 1048576 + d5) % c by
        rw [show pv d0 d1 d2 d3 d4 d5 5 = pv d0 d1 d2 d3 d4 d5 6 * 1048576 + d5 by simp only [pv] <;> omega]; exact step_div _ _ _ _ _ HV.out)
      clear q0 q1 m0 m1 HV
      by_cases top : 1099511627776 < out * 1048576 + (rest * 1048576 + d5) / c
      · have HE := Lib.hid (over_top _ _ _ _ _ hc HS.out a3 a4 (HP.out 5).2 top)
        clear HS HP
        go_wp2_with (go_at_call 42; refine (rtop_any _).mono ?_; rintro e w' ⟨rfl, rfl⟩)
        go_ret
        exact ⟨ret_int HE.out.symm, (Below.refl _ _).alloc (Nat.le_refl _) _⟩
      · clear HP
        go_wp2_with (go_at_call 42; refine (rtop_any _).mono ?_; rintro e w' ⟨rfl, rfl⟩)
        go_round
        case rel => exact ⟨5, 4, _, _, by omega, by omega, rfl, rfl, rfl, a3, a4, by omega, by omega, HS.out⟩
        case measure => simp [intOf]

theorem sum_prod (a0 a1 a2 b0 b1 b2 : Int) : sumTo a0 a1 a2 b0 b1 b2 9 = (a0 + a1 * 1048576 + a2 * 1099511627776) * (b0 + b1 * 1048576 + b2 * 1099511627776) := by
  simp only [sumTo]; grind
theorem digits_of (n : Int) : n % 1048576 + n / 1048576 % 1048576 * 1048576 + n / 1099511627776 * 1099511627776 = n := by omega
theorem pv_val (d0 d1 d2 d3 d4 d5 : Int) : pv d0 d1 d2 d3 d4 d5 0 = val6 d0 d1 d2 d3 d4 d5 := by simp only [pv, val6]; omega
theorem small_prod (x y : Int) (hx : 0 ≤ x ∧ x ≤ 1048576) (hy : 0 ≤ y ∧ y ≤ 1048576) : 0 ≤ x * y ∧ x * y ≤ 1099511627776 :=
  ⟨Int.mul_nonneg hx.1 hy.1, by have := Int.mul_le_mul hx.2 hy.2 hy.1 (by omega); omega⟩

/-- The digits of two right numbers, multiplied: Times, as a whole. -/
def ProdPost (v : Int) (w : World) (e : Ending) (w' : World) : Prop :=
  ∃ o0 o1 o2 o3 o4 o5 : Int, e = .returned (.agg #[.int .i64 o0, .int .i64 o1, .int .i64 o2, .int .i64 o3, .int .i64 o4, .int .i64 o5]) ∧ pv o0 o1 o2 o3 o4 o5 0 = v ∧
    (o0 < 1048576 ∧ o1 < 1048576 ∧ o2 < 1048576 ∧ o3 < 1048576 ∧ o4 < 1048576) ∧ (0 ≤ o0 ∧ 0 ≤ o1 ∧ 0 ≤ o2 ∧ 0 ≤ o3 ∧ 0 ≤ o4 ∧ 0 ≤ o5) ∧ o5 < 1048576 ∧ Below w.heap.size w w'
theorem prod_any (x y : Int) (hx : 0 ≤ x ∧ x ≤ 1099511627776) (hy : 0 ≤ y ∧ y ≤ 1099511627776) (w : World) :
    Calls Tryz.prog 103 #[.agg #[.int .i64 (x % 1048576), .int .i64 (x / 1048576 % 1048576), .int .i64 (x / 1099511627776), .int .i64 0], .agg #[.int .i64 (y % 1048576), .int .i64 (y / 1048576 % 1048576), .int .i64 (y / 1099511627776), .int .i64 0]] w (ProdPost (x * y) w) := by
  have x0 : 0 ≤ x % 1048576 ∧ x % 1048576 ≤ 1048576 := by omega
  have x1 : 0 ≤ x / 1048576 % 1048576 ∧ x / 1048576 % 1048576 ≤ 1048576 := by omega
  have x2 : 0 ≤ x / 1099511627776 ∧ x / 1099511627776 ≤ 1048576 := by omega
  have y0 : 0 ≤ y % 1048576 ∧ y % 1048576 ≤ 1048576 := by omega
  have y1 : 0 ≤ y / 1048576 % 1048576 ∧ y / 1048576 % 1048576 ≤ 1048576 := by omega
  have y2 : 0 ≤ y / 1099511627776 ∧ y / 1099511627776 ≤ 1048576 := by omega
  refine (times_any _ _ _ _ _ _ w (small_prod _ _ x0 y0) (small_prod _ _ x0 y1) (small_prod _ _ x0 y2) (small_prod _ _ x1 y0) (small_prod _ _ x1 y1) (small_prod _ _ x1 y2) (small_prod _ _ x2 y0) (small_prod _ _ x2 y1) (small_prod _ _ x2 y2)).mono ?_
  rintro e w' ⟨o0, o1, o2, o3, o4, o5, he, hv, hd, hn, hb⟩
  rw [sum_prod, digits_of x, digits_of y] at hv
  have hp := prod_range x y hx hy
  refine ⟨o0, o1, o2, o3, o4, o5, he, by rw [pv_val]; exact hv, hd, hn, ?_, hb⟩
  rw [← hv] at hp
  simp only [val6] at hp
  omega

theorem through_one (v : Int) (h : 0 ≤ v) : throughF v 1 = near v := by
  unfold throughF; rw [Int.ediv_one, near_nonneg v h]; split <;> split <;> omega

set_option maxHeartbeats 800000 in
theorem rmul_any (a b : Int) (w : World) : Calls Tryz.prog 93 #[.int .i64 a, .int .i64 b] w fun e w' => e = .returned (.int .i64 (near (near a * near b))) ∧ Below w.heap.size w w' := by
  have ha := near_range a
  have hb := near_range b
  have HT := Lib.hid (through_one (near a * near b) (Int.mul_nonneg ha.1 hb.1))
  go_enter Tryz.func93, Tryz.ntmps93
  go_wp2_with fail
  refine (rnear_any _ _).mono ?_
  rintro e w' ⟨rfl, rfl⟩
  go_wp2_with fail
  refine (of_any _ ha.1 ha.2 _).mono ?_
  rintro e w1 ⟨rfl, hb1⟩
  have HB1 := Lib.hid hb1
  clear hb1
  go_wp2_with fail
  refine (rnear_any _ _).mono ?_
  rintro e w' ⟨rfl, rfl⟩
  go_wp2_with fail
  refine (of_any _ hb.1 hb.2 _).mono ?_
  rintro e w2 ⟨rfl, hb2⟩
  have HB2 := Lib.hid (HB1.out.trans (hb2.mono HB1.out.size))
  clear hb2 HB1
  go_wp2_with fail
  refine (prod_any _ _ ha hb _).mono ?_
  rintro e w3 ⟨o0, o1, o2, o3, o4, o5, rfl, hv, hd, hn, h5, hb3⟩
  have HB3 := Lib.hid (HB2.out.trans (hb3.mono HB2.out.size))
  have HV := Lib.hid hv
  clear hb3 HB2 hv
  go_wp2_with fail
  refine (through_any _ _ _ _ _ _ 1 hd hn h5 (by omega) (by omega) _).mono ?_
  rintro e w4 ⟨rfl, hb4⟩
  have HB4 := Lib.hid (HB3.out.trans (hb4.mono HB3.out.size))
  clear hb4 HB3
  go_wp2_with fail
  go_ret
  exact ⟨ret_int (by rw [HV.out, HT.out]), HB4.out⟩
end Go.Proofs.YtlbihcpglcdmmaaGreat.gb
namespace Go.Proofs.YtlbihcpglcdmmaaGreat.gb
open Go.RowKit

def isR (n : Int) : Bool := near n == n
theorem isR_iff (n : Int) : isR n = true ↔ 0 ≤ n ∧ n ≤ 1099511627776 := by
  unfold isR near
  rw [beq_iff_eq]
  constructor
  · intro h
    (repeat' split at h) <;> omega
  · intro h
    rw [if_neg (by omega), if_neg (by omega)]
set_option maxHeartbeats 400000 in
theorem is_any (n : Int) (w : World) : Calls Tryz.prog 43 #[.int .i64 n] w fun e w' => e = .returned (.bool (isR n)) ∧ w = w' := by
  go_enter Tryz.func43, Tryz.ntmps43
  go_wp2_with fail
  refine (rnear_any _ _).mono ?_
  rintro e w' ⟨rfl, rfl⟩
  go_wp2_with fail
  go_ret
  exact ⟨rfl, rfl⟩
/-- Is a bucket right? -/
def rightB (r u l t : Int) : Bool := isR r && isR u && isR l && isR t && decide (u ≠ 0) && decide (l ≤ u)
theorem rightB_iff (r u l t : Int) : rightB r u l t = true ↔ (0 ≤ r ∧ r ≤ 1099511627776) ∧ (0 ≤ u ∧ u ≤ 1099511627776) ∧ (0 ≤ l ∧ l ≤ 1099511627776) ∧ (0 ≤ t ∧ t ≤ 1099511627776) ∧ u ≠ 0 ∧ l ≤ u := by
  unfold rightB
  simp only [Bool.and_eq_true, isR_iff, decide_eq_true_eq, and_assoc]
set_option maxRecDepth 100000 in
set_option maxHeartbeats 4000000 in
theorem rright_any (r u l t : Int) (w : World) : Calls Tryz.prog 78 #[.agg #[.int .i64 r, .int .i64 u, .int .i64 l, .int .i64 t]] w fun e w' => e = .returned (.bool (rightB r u l t)) ∧ Below w.heap.size w w' := by
  have HI := Lib.hid is_any
  have HB := Lib.hid (show Below w.heap.size w (w.alloc (.cells #[.int .i64 r, .int .i64 u, .int .i64 l, .int .i64 t] 33)) from (Below.refl _ _).alloc (Nat.le_refl _) _)
  have HF := Lib.hid (show rightB r u l t = (isR r && isR u && isR l && isR t && decide (u ≠ 0) && decide (l ≤ u)) from rfl)
  cases e0 : isR r with
  | false =>
    go_enter Tryz.func78, Tryz.ntmps78
    go_wp2_with fail
    refine (HI.out _ _).mono ?_
    rintro e w' ⟨rfl, rfl⟩
    go_wp2_with fail
    go_ret
    exact ⟨ret_bool (by rw [HF.out]; simp [e0]), HB.out⟩
  | true =>
    cases e1 : isR u with
    | false =>
      go_enter Tryz.func78, Tryz.ntmps78
      go_wp2_with fail
      refine (HI.out _ _).mono ?_
      rintro e w' ⟨rfl, rfl⟩
      go_wp2_with fail
      refine (HI.out _ _).mono ?_
      rintro e w' ⟨rfl, rfl⟩
      go_wp2_with fail
      go_ret
      exact ⟨ret_bool (by rw [HF.out]; simp [e0, e1]), HB.out⟩
    | true =>
      cases e2 : isR l with
      | false =>
        go_enter Tryz.func78, Tryz.ntmps78
        go_wp2_with fail
        refine (HI.out _ _).mono ?_
        rintro e w' ⟨rfl, rfl⟩
        go_wp2_with fail
        refine (HI.out _ _).mono ?_
        rintro e w' ⟨rfl, rfl⟩
        go_wp2_with fail
        refine (HI.out _ _).mono ?_
        rintro e w' ⟨rfl, rfl⟩
        go_wp2_with fail
        go_ret
        exact ⟨ret_bool (by rw [HF.out]; simp [e0, e1, e2]), HB.out⟩
      | true =>
        cases e3 : isR t with
        | false =>
          go_enter Tryz.func78, Tryz.ntmps78
          go_wp2_with fail
          refine (HI.out _ _).mono ?_
          rintro e w' ⟨rfl, rfl⟩
          go_wp2_with fail
          refine (HI.out _ _).mono ?_
          rintro e w' ⟨rfl, rfl⟩
          go_wp2_with fail
          refine (HI.out _ _).mono ?_
          rintro e w' ⟨rfl, rfl⟩
          go_wp2_with fail
          refine (HI.out _ _).mono ?_
          rintro e w' ⟨rfl, rfl⟩
          go_wp2_with fail
          go_ret
          exact ⟨ret_bool (by rw [HF.out]; simp [e0, e1, e2, e3]), HB.out⟩
        | true =>
          by_cases e4 : u = 0
          · subst e4
            go_enter Tryz.func78, Tryz.ntmps78
            go_wp2_with fail
            refine (HI.out _ _).mono ?_
            rintro e w' ⟨rfl, rfl⟩
            go_wp2_with fail
            refine (HI.out _ _).mono ?_
            rintro e w' ⟨rfl, rfl⟩
            go_wp2_with fail
            refine (HI.out _ _).mono ?_
            rintro e w' ⟨rfl, rfl⟩
            go_wp2_with fail
            refine (HI.out _ _).mono ?_
            rintro e w' ⟨rfl, rfl⟩
            go_wp2_with fail
            go_ret
            exact ⟨ret_bool (by rw [HF.out]; simp []), HB.out⟩
          · by_cases e5 : l ≤ u
            · go_enter Tryz.func78, Tryz.ntmps78
              go_wp2_with fail
              refine (HI.out _ _).mono ?_
              rintro e w' ⟨rfl, rfl⟩
              go_wp2_with fail
              refine (HI.out _ _).mono ?_
              rintro e w' ⟨rfl, rfl⟩
              go_wp2_with fail
              refine (HI.out _ _).mono ?_
              rintro e w' ⟨rfl, rfl⟩
              go_wp2_with fail
              refine (HI.out _ _).mono ?_
              rintro e w' ⟨rfl, rfl⟩
              go_wp2_with fail
              go_ret
              exact ⟨ret_bool (by rw [HF.out]; simp [e0, e1, e2, e3, e4, e5]), HB.out⟩
            · go_enter Tryz.func78, Tryz.ntmps78
              go_wp2_with fail
              refine (HI.out _ _).mono ?_
              rintro e w' ⟨rfl, rfl⟩
              go_wp2_with fail
              refine (HI.out _ _).mono ?_
              rintro e w' ⟨rfl, rfl⟩
              go_wp2_with fail
              refine (HI.out _ _).mono ?_
              rintro e w' ⟨rfl, rfl⟩
              go_wp2_with fail
              refine (HI.out _ _).mono ?_
              rintro e w' ⟨rfl, rfl⟩
              go_wp2_with fail
              go_ret
              exact ⟨ret_bool (by rw [HF.out]; simp [e0, e1, e2, e3, e4]), HB.out⟩
end Go.Proofs.YtlbihcpglcdmmaaGreat.gb
namespace Go.Proofs.YtlbihcpglcdmmaaGreat.gb
open Go.RowKit

theorem set_heap {w : World} {g i : Nat} {cs : Array Value} {T : TypeId} {fr : Nat × Nat} (hg : w.heap[g]? = some (.cells cs T fr)) (u : Value) : (w.setCell ⟨g, i, none⟩ u).heap[g]? = some (.cells (cs.setIfInBounds i u) T fr) := by
  simp [World.setCell, Array.getElem?_modify, hg]
def set4 (w : World) (g : Nat) (a b c d : Value) : World := (((w.setCell ⟨g, 0, none⟩ a).setCell ⟨g, 1, none⟩ b).setCell ⟨g, 2, none⟩ c).setCell ⟨g, 3, none⟩ d
theorem set4_heap {w : World} {g : Nat} {x y z t : Value} {T : TypeId} (h : w.heap[g]? = some (.cells #[x, y, z, t] T (0, 0))) (a b c d : Value) : (set4 w g a b c d).heap[g]? = some (.cells #[a, b, c, d] T (0, 0)) := by
  unfold set4
  rw [set_heap (set_heap (set_heap (set_heap h a) b) c)]
  rfl
theorem set4_far {w : World} {g k : Nat} (a b c d : Value) (h : k ≠ g) : (set4 w g a b c d).heap[k]? = w.heap[k]? := by
  unfold set4
  rw [Below.heap_setCell _ _ _ _ h, Below.heap_setCell _ _ _ _ h, Below.heap_setCell _ _ _ _ h, Below.heap_setCell _ _ _ _ h]
theorem set4_below {B : Nat} {w0 w : World} {g : Nat} (h : Below B w0 w) (hg : B ≤ g) (a b c d : Value) : Below B w0 (set4 w g a b c d) := (((h.setCell (p := ⟨g, 0, none⟩) hg a).setCell (p := ⟨g, 1, none⟩) hg b).setCell (p := ⟨g, 2, none⟩) hg c).setCell (p := ⟨g, 3, none⟩) hg d
theorem two_blocks {w w1 : World} {o0 o1 : Obj} (hb : Below ((w.alloc o0).alloc o1).heap.size ((w.alloc o0).alloc o1) w1) :
    w1.heap[w.heap.size]? = some o0 ∧ w1.heap[w.heap.size + 1]? = some o1 ∧ w.heap.size + 1 < w1.heap.size := by
  have hs := hb.size
  have s0 : (w.alloc o0).heap.size = w.heap.size + 1 := by simp
  have s1 : ((w.alloc o0).alloc o1).heap.size = w.heap.size + 1 + 1 := by simp
  rw [s1] at hs hb
  refine ⟨?_, ?_, by omega⟩
  · rw [hb.block _ (by omega), Below.heap_alloc _ _ _ (by omega)]
    exact heap_alloc_new w o0
  · rw [hb.block _ (by omega)]
    have := heap_alloc_new (w.alloc o0) o1
    rw [s0] at this
    exact this
theorem below2 (w : World) (o o' : Obj) : Below w.heap.size w ((w.alloc o).alloc o') := ((Below.refl _ _).alloc (Nat.le_refl _) _).alloc (by simp) _

/-- The level of a right bucket at a later tick. -/
def lvl (r u l t x : Int) : Int := if u < l + r * (x - t) then u else l + r * (x - t)
/-- What Fill makes of level and tick. -/
def fillL (r u l t now : Int) : Int := if rightB r u l t = true ∧ t < near now then lvl r u l t (near now) else l
def fillT (r u l t now : Int) : Int := if rightB r u l t = true ∧ t < near now then near now else t
theorem lvl_is {r u l t x M N : Int} (h : rightB r u l t = true) (hx : t < x) (hxt : x ≤ 1099511627776) (hM : near (near r * near (x - t)) = M) (hN : near (near l + near M) = N) : (if u < N then u else N) = lvl r u l t x := by
  obtain ⟨h1, h2, h3, h4, h5, h6⟩ := (rightB_iff r u l t).1 h
  rw [near_of r h1.1 h1.2, near_of (x - t) (by omega) (by omega)] at hM
  have hp : 0 ≤ r * (x - t) := Int.mul_nonneg h1.1 (by omega)
  unfold lvl
  generalize r * (x - t) = P at *
  subst hM
  have e2 : near (near P) = near P := near_of _ (near_range P).1 (near_range P).2
  rw [near_of l h3.1 h3.2, e2] at hN
  subst hN
  have hn := near_range P
  have e3 := near_nonneg (l + near P) (by omega)
  rw [e3]
  have e1 := near_nonneg P hp
  by_cases hP : 1099511627776 < P
  · rw [if_pos hP] at e1
    rw [e1]
    (repeat' split) <;> omega
  · rw [if_neg hP] at e1
    rw [e1]
    (repeat' split) <;> omega
set_option maxRecDepth 100000 in
set_option maxHeartbeats 8000000 in
theorem rfill_any (r u l t now : Int) (w : World) : Calls Tryz.prog 79 #[.agg #[.int .i64 r, .int .i64 u, .int .i64 l, .int .i64 t], .int .i64 now] w fun e w' => e = .returned (.agg #[.int .i64 r, .int .i64 u, .int .i64 (fillL r u l t now), .int .i64 (fillT r u l t now)]) ∧ Below w.heap.size w w' := by
  obtain ⟨x, hx⟩ : ∃ x, near now = x := ⟨_, rfl⟩
  have hxr := near_range now
  rw [hx] at hxr
  have HNE := Lib.hid (fun W => show Calls Tryz.prog 19 #[.int .i64 now] W fun e w' => e = .returned (.int .i64 x) ∧ W = w' from by rw [← hx]; exact rnear_any now W)
  have HB0 := Lib.hid (below2 w (.cells #[.int .i64 r, .int .i64 u, .int .i64 l, .int .i64 t] 33) (.cells #[.int .i64 0, .int .i64 0, .int .i64 0, .int .i64 0] 33))
  obtain ⟨F, hF⟩ : ∃ F, rightB r u l t = F := ⟨_, rfl⟩
  have HRG := Lib.hid (fun W => show Calls Tryz.prog 78 #[.agg #[.int .i64 r, .int .i64 u, .int .i64 l, .int .i64 t]] W fun e w' => e = .returned (.bool F) ∧ Below W.heap.size W w' from by rw [← hF]; exact rright_any r u l t W)
  have hL : fillL r u l t now = if F = true ∧ t < x then lvl r u l t x else l := by unfold fillL; rw [hx, hF]
  have hT : fillT r u l t now = if F = true ∧ t < x then x else t := by unfold fillT; rw [hx, hF]
  have HL := Lib.hid hL
  have HT := Lib.hid hT
  have HF := Lib.hid hF
  clear hx hL hT hF
  go_enter Tryz.func79, Tryz.ntmps79
  go_wp2_with fail
  refine (HNE.out _).mono ?_
  rintro e w1 ⟨rfl, rfl⟩
  clear HNE
  go_wp2_with fail
  refine (HRG.out _).mono ?_
  rintro e w3 ⟨rfl, hb⟩
  obtain ⟨hg0, hg1, hlt⟩ := two_blocks hb
  have HB3 := Lib.hid (seqB HB0.out hb)
  have x0 : w3.cell? ⟨w.heap.size, 0, none⟩ = some (.int .i64 r) := cell_of_row _ _ 0 _ _ _ hg0
  have x1 : w3.cell? ⟨w.heap.size, 1, none⟩ = some (.int .i64 u) := cell_of_row _ _ 1 _ _ _ hg0
  have x2 : w3.cell? ⟨w.heap.size, 2, none⟩ = some (.int .i64 l) := cell_of_row _ _ 2 _ _ _ hg0
  have x3 : w3.cell? ⟨w.heap.size, 3, none⟩ = some (.int .i64 t) := cell_of_row _ _ 3 _ _ _ hg0
  have y0 : w3.cell? ⟨w.heap.size + 1, 0, none⟩ = some (.int .i64 0) := cell_of_row _ _ 0 _ _ _ hg1
  have y1 : w3.cell? ⟨w.heap.size + 1, 1, none⟩ = some (.int .i64 0) := cell_of_row _ _ 1 _ _ _ hg1
  have y2 : w3.cell? ⟨w.heap.size + 1, 2, none⟩ = some (.int .i64 0) := cell_of_row _ _ 2 _ _ _ hg1
  have y3 : w3.cell? ⟨w.heap.size + 1, 3, none⟩ = some (.int .i64 0) := cell_of_row _ _ 3 _ _ _ hg1
  have f0 : w3.frozen? ⟨w.heap.size + 1, 0, none⟩ = false := frozen_at hg1
  have f1 : w3.frozen? ⟨w.heap.size + 1, 1, none⟩ = false := frozen_at hg1
  have f2 : w3.frozen? ⟨w.heap.size + 1, 2, none⟩ = false := frozen_at hg1
  have f3 : w3.frozen? ⟨w.heap.size + 1, 3, none⟩ = false := frozen_at hg1
  clear hb HRG HB0
  cases F with
  | false =>
    have hz := set4_heap hg1 (.int .i64 r) (.int .i64 u) (.int .i64 l) (.int .i64 t)
    have HD := Lib.hid (set4_below (w := w3) (g := w.heap.size + 1) HB3.out (show w.heap.size ≤ w.heap.size + 1 by omega) (.int .i64 r) (.int .i64 u) (.int .i64 l) (.int .i64 t))
    go_wp2_with fail
    generalize hW : set4 w3 (w.heap.size + 1) (.int .i64 r) (.int .i64 u) (.int .i64 l) (.int .i64 t) = W at *
    unfold set4 at hW
    rw [hW]
    clear hW
    have z0 : W.cell? ⟨w.heap.size + 1, 0, none⟩ = some (.int .i64 r) := cell_of_row W _ 0 _ _ _ hz
    have z1 : W.cell? ⟨w.heap.size + 1, 1, none⟩ = some (.int .i64 u) := cell_of_row W _ 1 _ _ _ hz
    have z2 : W.cell? ⟨w.heap.size + 1, 2, none⟩ = some (.int .i64 l) := cell_of_row W _ 2 _ _ _ hz
    have z3 : W.cell? ⟨w.heap.size + 1, 3, none⟩ = some (.int .i64 t) := cell_of_row W _ 3 _ _ _ hz
    exact bodyPost_ret (v := .agg #[.int .i64 r, .int .i64 u, .int .i64 l, .int .i64 t]) (by simp [results, Tryz.results79, go_sem, z0, z1, z2, z3]) rfl ⟨by rw [HL.out, HT.out]; simp, HD.out⟩
  | true =>
    by_cases hlt2 : x ≤ t
    · have hz := set4_heap hg1 (.int .i64 r) (.int .i64 u) (.int .i64 l) (.int .i64 t)
      have HD := Lib.hid (set4_below (w := w3) (g := w.heap.size + 1) HB3.out (show w.heap.size ≤ w.heap.size + 1 by omega) (.int .i64 r) (.int .i64 u) (.int .i64 l) (.int .i64 t))
      go_wp2_with fail
      generalize hW : set4 w3 (w.heap.size + 1) (.int .i64 r) (.int .i64 u) (.int .i64 l) (.int .i64 t) = W at *
      unfold set4 at hW
      rw [hW]
      clear hW
      have z0 : W.cell? ⟨w.heap.size + 1, 0, none⟩ = some (.int .i64 r) := cell_of_row W _ 0 _ _ _ hz
      have z1 : W.cell? ⟨w.heap.size + 1, 1, none⟩ = some (.int .i64 u) := cell_of_row W _ 1 _ _ _ hz
      have z2 : W.cell? ⟨w.heap.size + 1, 2, none⟩ = some (.int .i64 l) := cell_of_row W _ 2 _ _ _ hz
      have z3 : W.cell? ⟨w.heap.size + 1, 3, none⟩ = some (.int .i64 t) := cell_of_row W _ 3 _ _ _ hz
      exact bodyPost_ret (v := .agg #[.int .i64 r, .int .i64 u, .int .i64 l, .int .i64 t]) (by simp [results, Tryz.results79, go_sem, z0, z1, z2, z3]) rfl ⟨by rw [HL.out, HT.out, if_neg (by omega), if_neg (by omega)], HD.out⟩
    · obtain ⟨h1, h2, h3, h4, h5, h6⟩ := (rightB_iff r u l t).1 HF.out
      obtain ⟨d, hd⟩ : ∃ d, x - t = d := ⟨_, rfl⟩
      obtain ⟨M, hM⟩ : ∃ M, near (near r * near d) = M := ⟨_, rfl⟩
      obtain ⟨N, hN⟩ : ∃ N, near (near l + near M) = N := ⟨_, rfl⟩
      have HV := Lib.hid (lvl_is HF.out (show t < x by omega) (by omega) (by rw [hd]; exact hM) hN)
      have hw : IntKind.i64.wrap (x - t) = d := by rw [IntWalk.i64_in _ (by omega), hd]
      have HMU := Lib.hid (fun W => show Calls Tryz.prog 93 #[.int .i64 r, .int .i64 d] W fun e w' => e = .returned (.int .i64 M) ∧ Below W.heap.size W w' from by rw [← hM]; exact rmul_any r d W)
      have HAD := Lib.hid (fun W => show Calls Tryz.prog 52 #[.int .i64 l, .int .i64 M] W fun e w' => e = .returned (.int .i64 N) ∧ W = w' from by rw [← hN]; exact radd_any l M W)
      have HG0 := Lib.hid hg0
      have HG1 := Lib.hid hg1
      have HXT := Lib.hid (show t < x by omega)
      have HCK := Lib.hid (show ∀ W, Below w3.heap.size w3 W → (W.cell? ⟨w.heap.size, 0, none⟩ = some (.int .i64 r) ∧ W.cell? ⟨w.heap.size, 2, none⟩ = some (.int .i64 l) ∧ W.cell? ⟨w.heap.size, 3, none⟩ = some (.int .i64 t)) ∧ Below w3.heap.size w3 W from
        fun W hb => ⟨⟨cell_of_row _ _ 0 _ _ _ ((hb.block _ (blk_lt HG0.out)).trans HG0.out), cell_of_row _ _ 2 _ _ _ ((hb.block _ (blk_lt HG0.out)).trans HG0.out), cell_of_row _ _ 3 _ _ _ ((hb.block _ (blk_lt HG0.out)).trans HG0.out)⟩, hb⟩)
      clear hd hM hN h1 h2 h3 h4 h5 h6 hg0 hg1
      go_wp2_with fail
      go_region_held (fun W => (W.cell? ⟨w.heap.size, 0, none⟩ = some (.int .i64 r) ∧ W.cell? ⟨w.heap.size, 2, none⟩ = some (.int .i64 l) ∧ W.cell? ⟨w.heap.size, 3, none⟩ = some (.int .i64 t)) ∧ Below w3.heap.size w3 W)
        ((refine HCK.out _ ?_
          go_split_ands
          first
            | with_reducible exact (Below.refl _ _).drew
            | with_reducible assumption))
        (first
          | (go_at_call 93; go_split_ands; (with_reducible refine Calls.mono (HMU.out _) ?_); rintro e w5 ⟨rfl, hb⟩; (have hb5 := seqB (by assumption) hb); clear hb)
          | (go_at_call 52; go_split_ands; (with_reducible refine Calls.mono (HAD.out _) ?_); rintro e w6 ⟨rfl, rfl⟩))
      have HB5 := Lib.hid (seqB HB3.out hb5)
      have hg0 := (hb5.block _ (blk_lt HG0.out)).trans HG0.out
      have hg1 := (hb5.block _ (blk_lt HG1.out)).trans HG1.out
      have hlt5 : w.heap.size + 1 < w5.heap.size := blk_lt hg1
      clear hb5 HCK HMU HAD
      go_split_ands
      clear hlt x0 x1 x2 x3 y0 y1 y2 y3 f0 f1 f2 f3
      have x0 : w5.cell? ⟨w.heap.size, 0, none⟩ = some (.int .i64 r) := cell_of_row _ _ 0 _ _ _ hg0
      have x1 : w5.cell? ⟨w.heap.size, 1, none⟩ = some (.int .i64 u) := cell_of_row _ _ 1 _ _ _ hg0
      have x2 : w5.cell? ⟨w.heap.size, 2, none⟩ = some (.int .i64 l) := cell_of_row _ _ 2 _ _ _ hg0
      have x3 : w5.cell? ⟨w.heap.size, 3, none⟩ = some (.int .i64 t) := cell_of_row _ _ 3 _ _ _ hg0
      have y0 : w5.cell? ⟨w.heap.size + 1, 0, none⟩ = some (.int .i64 0) := cell_of_row _ _ 0 _ _ _ hg1
      have y1 : w5.cell? ⟨w.heap.size + 1, 1, none⟩ = some (.int .i64 0) := cell_of_row _ _ 1 _ _ _ hg1
      have y2 : w5.cell? ⟨w.heap.size + 1, 2, none⟩ = some (.int .i64 0) := cell_of_row _ _ 2 _ _ _ hg1
      have y3 : w5.cell? ⟨w.heap.size + 1, 3, none⟩ = some (.int .i64 0) := cell_of_row _ _ 3 _ _ _ hg1
      have f0 : w5.frozen? ⟨w.heap.size + 1, 0, none⟩ = false := frozen_at hg1
      have f1 : w5.frozen? ⟨w.heap.size + 1, 1, none⟩ = false := frozen_at hg1
      have f2 : w5.frozen? ⟨w.heap.size + 1, 2, none⟩ = false := frozen_at hg1
      have f3 : w5.frozen? ⟨w.heap.size + 1, 3, none⟩ = false := frozen_at hg1
      by_cases hNu : u < N
      · have hV := HV.out
        rw [if_pos hNu] at hV
        have HV1 := Lib.hid hV
        clear hV
        have hz := set4_heap hg1 (.int .i64 r) (.int .i64 u) (.int .i64 u) (.int .i64 x)
        have HD := Lib.hid (set4_below (w := w5) (g := w.heap.size + 1) HB5.out (show w.heap.size ≤ w.heap.size + 1 by omega) (.int .i64 r) (.int .i64 u) (.int .i64 u) (.int .i64 x))
        go_wp2_with fail
        generalize hW : set4 w5 (w.heap.size + 1) (.int .i64 r) (.int .i64 u) (.int .i64 u) (.int .i64 x) = W at *
        unfold set4 at hW
        rw [hW]
        clear hW
        have z0 : W.cell? ⟨w.heap.size + 1, 0, none⟩ = some (.int .i64 r) := cell_of_row W _ 0 _ _ _ hz
        have z1 : W.cell? ⟨w.heap.size + 1, 1, none⟩ = some (.int .i64 u) := cell_of_row W _ 1 _ _ _ hz
        have z2 : W.cell? ⟨w.heap.size + 1, 2, none⟩ = some (.int .i64 u) := cell_of_row W _ 2 _ _ _ hz
        have z3 : W.cell? ⟨w.heap.size + 1, 3, none⟩ = some (.int .i64 x) := cell_of_row W _ 3 _ _ _ hz
        exact bodyPost_ret (v := .agg #[.int .i64 r, .int .i64 u, .int .i64 u, .int .i64 x]) (by simp [results, Tryz.results79, go_sem, z0, z1, z2, z3]) rfl ⟨by rw [HL.out, HT.out, if_pos (by simp [HXT.out]), if_pos (by simp [HXT.out]), ← HV1.out], HD.out⟩
      · have hV := HV.out
        rw [if_neg hNu] at hV
        have HV1 := Lib.hid hV
        clear hV
        have hz := set4_heap hg1 (.int .i64 r) (.int .i64 u) (.int .i64 N) (.int .i64 x)
        have HD := Lib.hid (set4_below (w := w5) (g := w.heap.size + 1) HB5.out (show w.heap.size ≤ w.heap.size + 1 by omega) (.int .i64 r) (.int .i64 u) (.int .i64 N) (.int .i64 x))
        go_wp2_with fail
        generalize hW : set4 w5 (w.heap.size + 1) (.int .i64 r) (.int .i64 u) (.int .i64 N) (.int .i64 x) = W at *
        unfold set4 at hW
        rw [hW]
        clear hW
        have z0 : W.cell? ⟨w.heap.size + 1, 0, none⟩ = some (.int .i64 r) := cell_of_row W _ 0 _ _ _ hz
        have z1 : W.cell? ⟨w.heap.size + 1, 1, none⟩ = some (.int .i64 u) := cell_of_row W _ 1 _ _ _ hz
        have z2 : W.cell? ⟨w.heap.size + 1, 2, none⟩ = some (.int .i64 N) := cell_of_row W _ 2 _ _ _ hz
        have z3 : W.cell? ⟨w.heap.size + 1, 3, none⟩ = some (.int .i64 x) := cell_of_row W _ 3 _ _ _ hz
        exact bodyPost_ret (v := .agg #[.int .i64 r, .int .i64 u, .int .i64 N, .int .i64 x]) (by simp [results, Tryz.results79, go_sem, z0, z1, z2, z3]) rfl ⟨by rw [HL.out, HT.out, if_pos (by simp [HXT.out]), if_pos (by simp [HXT.out]), ← HV1.out], HD.out⟩
end Go.Proofs.YtlbihcpglcdmmaaGreat.gb
namespace Go.Proofs.YtlbihcpglcdmmaaGreat.gb
open Go.RowKit

/-- How many are taken of so many. -/
def takeB (L n : Int) : Int := if n < 0 then 0 else if L < n then L else n
def mostV (r u l t k : Int) : Int := if rightB r u l t = true then near (near u + near (near (near r * near k))) else 0
theorem fill_right {r u l t : Int} (h : rightB r u l t = true) (now : Int) : rightB r u (fillL r u l t now) (fillT r u l t now) = true := by
  have h0 := (rightB_iff r u l t).1 h
  obtain ⟨h1, h2, h3, h4, h5, h6⟩ := h0
  rw [rightB_iff]
  have hn := near_range now
  unfold fillL fillT
  by_cases hc : rightB r u l t = true ∧ t < near now
  · rw [if_pos hc, if_pos hc]
    have hp : 0 ≤ r * (near now - t) := Int.mul_nonneg h1.1 (by omega)
    unfold lvl
    refine ⟨h1, h2, ?_, hn, h5, ?_⟩ <;> (split <;> omega)
  · rw [if_neg hc, if_neg hc]
    exact ⟨h1, h2, h3, h4, h5, h6⟩
set_option maxRecDepth 100000 in
set_option maxHeartbeats 8000000 in
theorem rtake_no {r u l t : Int} (h : rightB r u l t = false) (now n : Int) (w : World) : Calls Tryz.prog 54 #[.agg #[.int .i64 r, .int .i64 u, .int .i64 l, .int .i64 t], .int .i64 now, .int .i64 n] w fun e w' => e = .returned (.tuple #[.agg #[.int .i64 r, .int .i64 u, .int .i64 l, .int .i64 t], .int .i64 0]) ∧ Below w.heap.size w w' := by
  have HRG := Lib.hid (fun W => show Calls Tryz.prog 78 #[.agg #[.int .i64 r, .int .i64 u, .int .i64 l, .int .i64 t]] W fun e w' => e = .returned (.bool false) ∧ Below W.heap.size W w' from by rw [← h]; exact rright_any r u l t W)
  have HB0 := Lib.hid (below2 w (.cells #[.int .i64 r, .int .i64 u, .int .i64 l, .int .i64 t] 33) (.cells #[.int .i64 0, .int .i64 0, .int .i64 0, .int .i64 0] 33))
  go_enter Tryz.func54, Tryz.ntmps54
  go_wp2_with fail
  refine (HRG.out _).mono ?_
  rintro e w3 ⟨rfl, hb⟩
  obtain ⟨hg0, hg1, hlt⟩ := two_blocks hb
  have HB3 := Lib.hid (seqB HB0.out hb)
  have x0 : w3.cell? ⟨w.heap.size, 0, none⟩ = some (.int .i64 r) := cell_of_row _ _ 0 _ _ _ hg0
  have x1 : w3.cell? ⟨w.heap.size, 1, none⟩ = some (.int .i64 u) := cell_of_row _ _ 1 _ _ _ hg0
  have x2 : w3.cell? ⟨w.heap.size, 2, none⟩ = some (.int .i64 l) := cell_of_row _ _ 2 _ _ _ hg0
  have x3 : w3.cell? ⟨w.heap.size, 3, none⟩ = some (.int .i64 t) := cell_of_row _ _ 3 _ _ _ hg0
  have y0 : w3.cell? ⟨w.heap.size + 1, 0, none⟩ = some (.int .i64 0) := cell_of_row _ _ 0 _ _ _ hg1
  have y1 : w3.cell? ⟨w.heap.size + 1, 1, none⟩ = some (.int .i64 0) := cell_of_row _ _ 1 _ _ _ hg1
  have y2 : w3.cell? ⟨w.heap.size + 1, 2, none⟩ = some (.int .i64 0) := cell_of_row _ _ 2 _ _ _ hg1
  have y3 : w3.cell? ⟨w.heap.size + 1, 3, none⟩ = some (.int .i64 0) := cell_of_row _ _ 3 _ _ _ hg1
  have f0 : w3.frozen? ⟨w.heap.size + 1, 0, none⟩ = false := frozen_at hg1
  have f1 : w3.frozen? ⟨w.heap.size + 1, 1, none⟩ = false := frozen_at hg1
  have f2 : w3.frozen? ⟨w.heap.size + 1, 2, none⟩ = false := frozen_at hg1
  have f3 : w3.frozen? ⟨w.heap.size + 1, 3, none⟩ = false := frozen_at hg1
  clear hb HRG HB0
  have hz := set4_heap hg1 (.int .i64 r) (.int .i64 u) (.int .i64 l) (.int .i64 t)
  have HD := Lib.hid (set4_below (w := w3) (g := w.heap.size + 1) HB3.out (show w.heap.size ≤ w.heap.size + 1 by omega) (.int .i64 r) (.int .i64 u) (.int .i64 l) (.int .i64 t))
  go_wp2_with fail
  generalize hW : set4 w3 (w.heap.size + 1) (.int .i64 r) (.int .i64 u) (.int .i64 l) (.int .i64 t) = W at *
  unfold set4 at hW
  rw [hW]
  clear hW
  have z0 : W.cell? ⟨w.heap.size + 1, 0, none⟩ = some (.int .i64 r) := cell_of_row W _ 0 _ _ _ hz
  have z1 : W.cell? ⟨w.heap.size + 1, 1, none⟩ = some (.int .i64 u) := cell_of_row W _ 1 _ _ _ hz
  have z2 : W.cell? ⟨w.heap.size + 1, 2, none⟩ = some (.int .i64 l) := cell_of_row W _ 2 _ _ _ hz
  have z3 : W.cell? ⟨w.heap.size + 1, 3, none⟩ = some (.int .i64 t) := cell_of_row W _ 3 _ _ _ hz
  exact bodyPost_ret (v := .tuple #[.agg #[.int .i64 r, .int .i64 u, .int .i64 l, .int .i64 t], .int .i64 0]) (by simp [results, Tryz.results54, go_sem, z0, z1, z2, z3]) rfl ⟨rfl, HD.out⟩
set_option maxRecDepth 100000 in
set_option maxHeartbeats 8000000 in
theorem rtake_yes {r u l t : Int} (h : rightB r u l t = true) (now n : Int) {L T K D : Int} (hL : fillL r u l t now = L) (hT : fillT r u l t now = T) (hK : takeB L n = K) (hD : L - K = D) (w : World) : Calls Tryz.prog 54 #[.agg #[.int .i64 r, .int .i64 u, .int .i64 l, .int .i64 t], .int .i64 now, .int .i64 n] w fun e w' => e = .returned (.tuple #[.agg #[.int .i64 r, .int .i64 u, .int .i64 D, .int .i64 T], .int .i64 K]) ∧ Below w.heap.size w w' := by
  have hfr := (rightB_iff _ _ _ _).1 (fill_right h now)
  rw [hL] at hfr
  have hLr := hfr.2.2.1
  have HRG := Lib.hid (fun W => show Calls Tryz.prog 78 #[.agg #[.int .i64 r, .int .i64 u, .int .i64 l, .int .i64 t]] W fun e w' => e = .returned (.bool true) ∧ Below W.heap.size W w' from by rw [← h]; exact rright_any r u l t W)
  have HFI := Lib.hid (fun W => show Calls Tryz.prog 79 #[.agg #[.int .i64 r, .int .i64 u, .int .i64 l, .int .i64 t], .int .i64 now] W fun e w' => e = .returned (.agg #[.int .i64 r, .int .i64 u, .int .i64 L, .int .i64 T]) ∧ Below W.heap.size W w' from by rw [← hL, ← hT]; exact rfill_any r u l t now W)
  have HB0 := Lib.hid (below2 w (.cells #[.int .i64 r, .int .i64 u, .int .i64 l, .int .i64 t] 33) (.cells #[.int .i64 0, .int .i64 0, .int .i64 0, .int .i64 0] 33))
  clear hfr hL hT h
  unfold takeB at hK
  by_cases hn0 : n < 0
  · rw [if_pos hn0] at hK
    subst hK
    have hDe : D = L := by omega
    have hw : IntKind.i64.wrap L = L := IntWalk.i64_in _ (by omega)
    subst hDe
    clear hD
    have HDV := Lib.hid (show D = D from rfl)
    have HKV := Lib.hid (show (0 : Int) = 0 from rfl)
    go_enter Tryz.func54, Tryz.ntmps54
    go_wp2_with fail
    refine (HRG.out _).mono ?_
    rintro e w1 ⟨rfl, hb1⟩
    obtain ⟨hg0, hg1, hlt⟩ := two_blocks hb1
    have HB1 := Lib.hid (seqB HB0.out hb1)
    have HG0 := Lib.hid hg0
    have HG1 := Lib.hid hg1
    have x0 : w1.cell? ⟨w.heap.size, 0, none⟩ = some (.int .i64 r) := cell_of_row _ _ 0 _ _ _ hg0
    have x1 : w1.cell? ⟨w.heap.size, 1, none⟩ = some (.int .i64 u) := cell_of_row _ _ 1 _ _ _ hg0
    have x2 : w1.cell? ⟨w.heap.size, 2, none⟩ = some (.int .i64 l) := cell_of_row _ _ 2 _ _ _ hg0
    have x3 : w1.cell? ⟨w.heap.size, 3, none⟩ = some (.int .i64 t) := cell_of_row _ _ 3 _ _ _ hg0
    clear hb1 hg0 hg1 hlt
    go_wp2_with fail
    refine (HFI.out _).mono ?_
    rintro e w2 ⟨rfl, hb2⟩
    have hg0 := (hb2.block _ (blk_lt HG0.out)).trans HG0.out
    have hg1 := (hb2.block _ (blk_lt HG1.out)).trans HG1.out
    have HB2 := Lib.hid (seqB HB1.out hb2)
    have hlt2 : w.heap.size + 1 < w2.heap.size := blk_lt hg1
    clear hb2 x0 x1 x2 x3
    have x0 : w2.cell? ⟨w.heap.size, 0, none⟩ = some (.int .i64 r) := cell_of_row _ _ 0 _ _ _ hg0
    have x1 : w2.cell? ⟨w.heap.size, 1, none⟩ = some (.int .i64 u) := cell_of_row _ _ 1 _ _ _ hg0
    have x2 : w2.cell? ⟨w.heap.size, 2, none⟩ = some (.int .i64 l) := cell_of_row _ _ 2 _ _ _ hg0
    have x3 : w2.cell? ⟨w.heap.size, 3, none⟩ = some (.int .i64 t) := cell_of_row _ _ 3 _ _ _ hg0
    have y0 : w2.cell? ⟨w.heap.size + 1, 0, none⟩ = some (.int .i64 0) := cell_of_row _ _ 0 _ _ _ hg1
    have y1 : w2.cell? ⟨w.heap.size + 1, 1, none⟩ = some (.int .i64 0) := cell_of_row _ _ 1 _ _ _ hg1
    have y2 : w2.cell? ⟨w.heap.size + 1, 2, none⟩ = some (.int .i64 0) := cell_of_row _ _ 2 _ _ _ hg1
    have y3 : w2.cell? ⟨w.heap.size + 1, 3, none⟩ = some (.int .i64 0) := cell_of_row _ _ 3 _ _ _ hg1
    have f0 : w2.frozen? ⟨w.heap.size + 1, 0, none⟩ = false := frozen_at hg1
    have f1 : w2.frozen? ⟨w.heap.size + 1, 1, none⟩ = false := frozen_at hg1
    have f2 : w2.frozen? ⟨w.heap.size + 1, 2, none⟩ = false := frozen_at hg1
    have f3 : w2.frozen? ⟨w.heap.size + 1, 3, none⟩ = false := frozen_at hg1
    have e0 : w2.frozen? ⟨w.heap.size, 0, none⟩ = false := frozen_at hg0
    have e1 : w2.frozen? ⟨w.heap.size, 1, none⟩ = false := frozen_at hg0
    have e2 : w2.frozen? ⟨w.heap.size, 2, none⟩ = false := frozen_at hg0
    have e3 : w2.frozen? ⟨w.heap.size, 3, none⟩ = false := frozen_at hg0
    go_upto_region 4 with fail
    have hs1 := set4_heap hg0 (.int .i64 r) (.int .i64 u) (.int .i64 D) (.int .i64 T)
    have hd1 := set4_below (w := w2) HB2.out (show w.heap.size ≤ w.heap.size by omega) (.int .i64 r) (.int .i64 u) (.int .i64 D) (.int .i64 T)
    have hf1 := (set4_far (.int .i64 r) (.int .i64 u) (.int .i64 D) (.int .i64 T) (show w.heap.size + 1 ≠ w.heap.size by omega)).trans hg1
    generalize hW1 : set4 w2 w.heap.size (.int .i64 r) (.int .i64 u) (.int .i64 D) (.int .i64 T) = W1 at *
    unfold set4 at hW1
    rw [hW1]
    clear hW1 x0 x1 x2 x3 y0 y1 y2 y3 f0 f1 f2 f3 e0 e1 e2 e3 hg0 hg1
    have hltW : w.heap.size + 1 < W1.heap.size := blk_lt hf1
    have x0 : W1.cell? ⟨w.heap.size, 0, none⟩ = some (.int .i64 r) := cell_of_row _ _ 0 _ _ _ hs1
    have x1 : W1.cell? ⟨w.heap.size, 1, none⟩ = some (.int .i64 u) := cell_of_row _ _ 1 _ _ _ hs1
    have x2 : W1.cell? ⟨w.heap.size, 2, none⟩ = some (.int .i64 D) := cell_of_row _ _ 2 _ _ _ hs1
    have x3 : W1.cell? ⟨w.heap.size, 3, none⟩ = some (.int .i64 T) := cell_of_row _ _ 3 _ _ _ hs1
    have e2 : W1.frozen? ⟨w.heap.size, 2, none⟩ = false := frozen_at hs1
    go_upto_region 9 with fail
    have hs2 := set_heap (i := 2) hs1 (.int .i64 D)
    have hd2 := hd1.setCell (p := ⟨w.heap.size, 2, none⟩) (Nat.le_refl _) (.int .i64 D)
    have hf2 := (Below.heap_setCell W1 ⟨w.heap.size, 2, none⟩ (.int .i64 D) (w.heap.size + 1) (by simp)).trans hf1
    generalize W1.setCell ⟨w.heap.size, 2, none⟩ (.int .i64 D) = W2 at *
    have hs2 : W2.heap[w.heap.size]? = some (.cells #[.int .i64 r, .int .i64 u, .int .i64 D, .int .i64 T] 33 (0, 0)) := hs2
    have hltV : w.heap.size + 1 < W2.heap.size := blk_lt hf2
    have hz := set4_heap hf2 (.int .i64 r) (.int .i64 u) (.int .i64 D) (.int .i64 T)
    have HD := Lib.hid (set4_below hd2 (show w.heap.size ≤ w.heap.size + 1 by omega) (.int .i64 r) (.int .i64 u) (.int .i64 D) (.int .i64 T))
    have v0 : W2.cell? ⟨w.heap.size, 0, none⟩ = some (.int .i64 r) := cell_of_row _ _ 0 _ _ _ hs2
    have v1 : W2.cell? ⟨w.heap.size, 1, none⟩ = some (.int .i64 u) := cell_of_row _ _ 1 _ _ _ hs2
    have v2 : W2.cell? ⟨w.heap.size, 2, none⟩ = some (.int .i64 D) := cell_of_row _ _ 2 _ _ _ hs2
    have v3 : W2.cell? ⟨w.heap.size, 3, none⟩ = some (.int .i64 T) := cell_of_row _ _ 3 _ _ _ hs2
    have y0 : W2.cell? ⟨w.heap.size + 1, 0, none⟩ = some (.int .i64 0) := cell_of_row _ _ 0 _ _ _ hf2
    have y1 : W2.cell? ⟨w.heap.size + 1, 1, none⟩ = some (.int .i64 0) := cell_of_row _ _ 1 _ _ _ hf2
    have y2 : W2.cell? ⟨w.heap.size + 1, 2, none⟩ = some (.int .i64 0) := cell_of_row _ _ 2 _ _ _ hf2
    have y3 : W2.cell? ⟨w.heap.size + 1, 3, none⟩ = some (.int .i64 0) := cell_of_row _ _ 3 _ _ _ hf2
    have f0 : W2.frozen? ⟨w.heap.size + 1, 0, none⟩ = false := frozen_at hf2
    have f1 : W2.frozen? ⟨w.heap.size + 1, 1, none⟩ = false := frozen_at hf2
    have f2 : W2.frozen? ⟨w.heap.size + 1, 2, none⟩ = false := frozen_at hf2
    have f3 : W2.frozen? ⟨w.heap.size + 1, 3, none⟩ = false := frozen_at hf2
    clear hs1 hd1 hf1 hs2 hd2 hf2 x0 x1 x2 x3 e2 hltW
    go_wp2_with fail
    generalize hW : set4 W2 (w.heap.size + 1) (.int .i64 r) (.int .i64 u) (.int .i64 D) (.int .i64 T) = W at *
    unfold set4 at hW
    rw [hW]
    clear hW
    have z0 : W.cell? ⟨w.heap.size + 1, 0, none⟩ = some (.int .i64 r) := cell_of_row W _ 0 _ _ _ hz
    have z1 : W.cell? ⟨w.heap.size + 1, 1, none⟩ = some (.int .i64 u) := cell_of_row W _ 1 _ _ _ hz
    have z2 : W.cell? ⟨w.heap.size + 1, 2, none⟩ = some (.int .i64 D) := cell_of_row W _ 2 _ _ _ hz
    have z3 : W.cell? ⟨w.heap.size + 1, 3, none⟩ = some (.int .i64 T) := cell_of_row W _ 3 _ _ _ hz
    exact bodyPost_ret (v := .tuple #[.agg #[.int .i64 r, .int .i64 u, .int .i64 D, .int .i64 T], .int .i64 0]) (by simp [results, Tryz.results54, go_sem, z0, z1, z2, z3]) rfl ⟨by rfl, HD.out⟩
  · rw [if_neg hn0] at hK
    by_cases hn1 : L < n
    · rw [if_pos hn1] at hK
      subst hK
      obtain rfl : D = 0 := by omega
      have hw : IntKind.i64.wrap (L - L) = 0 := by rw [IntWalk.i64_in _ (by omega)]; omega
      clear hD
      go_enter Tryz.func54, Tryz.ntmps54
      go_wp2_with fail
      refine (HRG.out _).mono ?_
      rintro e w1 ⟨rfl, hb1⟩
      obtain ⟨hg0, hg1, hlt⟩ := two_blocks hb1
      have HB1 := Lib.hid (seqB HB0.out hb1)
      have HG0 := Lib.hid hg0
      have HG1 := Lib.hid hg1
      have x0 : w1.cell? ⟨w.heap.size, 0, none⟩ = some (.int .i64 r) := cell_of_row _ _ 0 _ _ _ hg0
      have x1 : w1.cell? ⟨w.heap.size, 1, none⟩ = some (.int .i64 u) := cell_of_row _ _ 1 _ _ _ hg0
      have x2 : w1.cell? ⟨w.heap.size, 2, none⟩ = some (.int .i64 l) := cell_of_row _ _ 2 _ _ _ hg0
      have x3 : w1.cell? ⟨w.heap.size, 3, none⟩ = some (.int .i64 t) := cell_of_row _ _ 3 _ _ _ hg0
      clear hb1 hg0 hg1 hlt
      go_wp2_with fail
      refine (HFI.out _).mono ?_
      rintro e w2 ⟨rfl, hb2⟩
      have hg0 := (hb2.block _ (blk_lt HG0.out)).trans HG0.out
      have hg1 := (hb2.block _ (blk_lt HG1.out)).trans HG1.out
      have HB2 := Lib.hid (seqB HB1.out hb2)
      have hlt2 : w.heap.size + 1 < w2.heap.size := blk_lt hg1
      clear hb2 x0 x1 x2 x3
      have x0 : w2.cell? ⟨w.heap.size, 0, none⟩ = some (.int .i64 r) := cell_of_row _ _ 0 _ _ _ hg0
      have x1 : w2.cell? ⟨w.heap.size, 1, none⟩ = some (.int .i64 u) := cell_of_row _ _ 1 _ _ _ hg0
      have x2 : w2.cell? ⟨w.heap.size, 2, none⟩ = some (.int .i64 l) := cell_of_row _ _ 2 _ _ _ hg0
      have x3 : w2.cell? ⟨w.heap.size, 3, none⟩ = some (.int .i64 t) := cell_of_row _ _ 3 _ _ _ hg0
      have y0 : w2.cell? ⟨w.heap.size + 1, 0, none⟩ = some (.int .i64 0) := cell_of_row _ _ 0 _ _ _ hg1
      have y1 : w2.cell? ⟨w.heap.size + 1, 1, none⟩ = some (.int .i64 0) := cell_of_row _ _ 1 _ _ _ hg1
      have y2 : w2.cell? ⟨w.heap.size + 1, 2, none⟩ = some (.int .i64 0) := cell_of_row _ _ 2 _ _ _ hg1
      have y3 : w2.cell? ⟨w.heap.size + 1, 3, none⟩ = some (.int .i64 0) := cell_of_row _ _ 3 _ _ _ hg1
      have f0 : w2.frozen? ⟨w.heap.size + 1, 0, none⟩ = false := frozen_at hg1
      have f1 : w2.frozen? ⟨w.heap.size + 1, 1, none⟩ = false := frozen_at hg1
      have f2 : w2.frozen? ⟨w.heap.size + 1, 2, none⟩ = false := frozen_at hg1
      have f3 : w2.frozen? ⟨w.heap.size + 1, 3, none⟩ = false := frozen_at hg1
      have e0 : w2.frozen? ⟨w.heap.size, 0, none⟩ = false := frozen_at hg0
      have e1 : w2.frozen? ⟨w.heap.size, 1, none⟩ = false := frozen_at hg0
      have e2 : w2.frozen? ⟨w.heap.size, 2, none⟩ = false := frozen_at hg0
      have e3 : w2.frozen? ⟨w.heap.size, 3, none⟩ = false := frozen_at hg0
      go_upto_region 4 with fail
      have hs1 := set4_heap hg0 (.int .i64 r) (.int .i64 u) (.int .i64 L) (.int .i64 T)
      have hd1 := set4_below (w := w2) HB2.out (show w.heap.size ≤ w.heap.size by omega) (.int .i64 r) (.int .i64 u) (.int .i64 L) (.int .i64 T)
      have hf1 := (set4_far (.int .i64 r) (.int .i64 u) (.int .i64 L) (.int .i64 T) (show w.heap.size + 1 ≠ w.heap.size by omega)).trans hg1
      generalize hW1 : set4 w2 w.heap.size (.int .i64 r) (.int .i64 u) (.int .i64 L) (.int .i64 T) = W1 at *
      unfold set4 at hW1
      rw [hW1]
      clear hW1 x0 x1 x2 x3 y0 y1 y2 y3 f0 f1 f2 f3 e0 e1 e2 e3 hg0 hg1
      have hltW : w.heap.size + 1 < W1.heap.size := blk_lt hf1
      have x0 : W1.cell? ⟨w.heap.size, 0, none⟩ = some (.int .i64 r) := cell_of_row _ _ 0 _ _ _ hs1
      have x1 : W1.cell? ⟨w.heap.size, 1, none⟩ = some (.int .i64 u) := cell_of_row _ _ 1 _ _ _ hs1
      have x2 : W1.cell? ⟨w.heap.size, 2, none⟩ = some (.int .i64 L) := cell_of_row _ _ 2 _ _ _ hs1
      have x3 : W1.cell? ⟨w.heap.size, 3, none⟩ = some (.int .i64 T) := cell_of_row _ _ 3 _ _ _ hs1
      have e2 : W1.frozen? ⟨w.heap.size, 2, none⟩ = false := frozen_at hs1
      go_upto_region 9 with fail
      have hs2 := set_heap (i := 2) hs1 (.int .i64 0)
      have hd2 := hd1.setCell (p := ⟨w.heap.size, 2, none⟩) (Nat.le_refl _) (.int .i64 0)
      have hf2 := (Below.heap_setCell W1 ⟨w.heap.size, 2, none⟩ (.int .i64 0) (w.heap.size + 1) (by simp)).trans hf1
      generalize W1.setCell ⟨w.heap.size, 2, none⟩ (.int .i64 0) = W2 at *
      have hs2 : W2.heap[w.heap.size]? = some (.cells #[.int .i64 r, .int .i64 u, .int .i64 0, .int .i64 T] 33 (0, 0)) := hs2
      have hltV : w.heap.size + 1 < W2.heap.size := blk_lt hf2
      have hz := set4_heap hf2 (.int .i64 r) (.int .i64 u) (.int .i64 0) (.int .i64 T)
      have HD := Lib.hid (set4_below hd2 (show w.heap.size ≤ w.heap.size + 1 by omega) (.int .i64 r) (.int .i64 u) (.int .i64 0) (.int .i64 T))
      have v0 : W2.cell? ⟨w.heap.size, 0, none⟩ = some (.int .i64 r) := cell_of_row _ _ 0 _ _ _ hs2
      have v1 : W2.cell? ⟨w.heap.size, 1, none⟩ = some (.int .i64 u) := cell_of_row _ _ 1 _ _ _ hs2
      have v2 : W2.cell? ⟨w.heap.size, 2, none⟩ = some (.int .i64 0) := cell_of_row _ _ 2 _ _ _ hs2
      have v3 : W2.cell? ⟨w.heap.size, 3, none⟩ = some (.int .i64 T) := cell_of_row _ _ 3 _ _ _ hs2
      have y0 : W2.cell? ⟨w.heap.size + 1, 0, none⟩ = some (.int .i64 0) := cell_of_row _ _ 0 _ _ _ hf2
      have y1 : W2.cell? ⟨w.heap.size + 1, 1, none⟩ = some (.int .i64 0) := cell_of_row _ _ 1 _ _ _ hf2
      have y2 : W2.cell? ⟨w.heap.size + 1, 2, none⟩ = some (.int .i64 0) := cell_of_row _ _ 2 _ _ _ hf2
      have y3 : W2.cell? ⟨w.heap.size + 1, 3, none⟩ = some (.int .i64 0) := cell_of_row _ _ 3 _ _ _ hf2
      have f0 : W2.frozen? ⟨w.heap.size + 1, 0, none⟩ = false := frozen_at hf2
      have f1 : W2.frozen? ⟨w.heap.size + 1, 1, none⟩ = false := frozen_at hf2
      have f2 : W2.frozen? ⟨w.heap.size + 1, 2, none⟩ = false := frozen_at hf2
      have f3 : W2.frozen? ⟨w.heap.size + 1, 3, none⟩ = false := frozen_at hf2
      clear hs1 hd1 hf1 hs2 hd2 hf2 x0 x1 x2 x3 e2 hltW
      go_wp2_with fail
      generalize hW : set4 W2 (w.heap.size + 1) (.int .i64 r) (.int .i64 u) (.int .i64 0) (.int .i64 T) = W at *
      unfold set4 at hW
      rw [hW]
      clear hW
      have z0 : W.cell? ⟨w.heap.size + 1, 0, none⟩ = some (.int .i64 r) := cell_of_row W _ 0 _ _ _ hz
      have z1 : W.cell? ⟨w.heap.size + 1, 1, none⟩ = some (.int .i64 u) := cell_of_row W _ 1 _ _ _ hz
      have z2 : W.cell? ⟨w.heap.size + 1, 2, none⟩ = some (.int .i64 0) := cell_of_row W _ 2 _ _ _ hz
      have z3 : W.cell? ⟨w.heap.size + 1, 3, none⟩ = some (.int .i64 T) := cell_of_row W _ 3 _ _ _ hz
      exact bodyPost_ret (v := .tuple #[.agg #[.int .i64 r, .int .i64 u, .int .i64 0, .int .i64 T], .int .i64 L]) (by simp [results, Tryz.results54, go_sem, z0, z1, z2, z3]) rfl ⟨rfl, HD.out⟩
    · rw [if_neg hn1] at hK
      subst hK
      have hw : IntKind.i64.wrap (L - n) = D := by rw [IntWalk.i64_in _ (by omega), hD]
      clear hD
      go_enter Tryz.func54, Tryz.ntmps54
      go_wp2_with fail
      refine (HRG.out _).mono ?_
      rintro e w1 ⟨rfl, hb1⟩
      obtain ⟨hg0, hg1, hlt⟩ := two_blocks hb1
      have HB1 := Lib.hid (seqB HB0.out hb1)
      have HG0 := Lib.hid hg0
      have HG1 := Lib.hid hg1
      have x0 : w1.cell? ⟨w.heap.size, 0, none⟩ = some (.int .i64 r) := cell_of_row _ _ 0 _ _ _ hg0
      have x1 : w1.cell? ⟨w.heap.size, 1, none⟩ = some (.int .i64 u) := cell_of_row _ _ 1 _ _ _ hg0
      have x2 : w1.cell? ⟨w.heap.size, 2, none⟩ = some (.int .i64 l) := cell_of_row _ _ 2 _ _ _ hg0
      have x3 : w1.cell? ⟨w.heap.size, 3, none⟩ = some (.int .i64 t) := cell_of_row _ _ 3 _ _ _ hg0
      clear hb1 hg0 hg1 hlt
      go_wp2_with fail
      refine (HFI.out _).mono ?_
      rintro e w2 ⟨rfl, hb2⟩
      have hg0 := (hb2.block _ (blk_lt HG0.out)).trans HG0.out
      have hg1 := (hb2.block _ (blk_lt HG1.out)).trans HG1.out
      have HB2 := Lib.hid (seqB HB1.out hb2)
      have hlt2 : w.heap.size + 1 < w2.heap.size := blk_lt hg1
      clear hb2 x0 x1 x2 x3
      have x0 : w2.cell? ⟨w.heap.size, 0, none⟩ = some (.int .i64 r) := cell_of_row _ _ 0 _ _ _ hg0
      have x1 : w2.cell? ⟨w.heap.size, 1, none⟩ = some (.int .i64 u) := cell_of_row _ _ 1 _ _ _ hg0
      have x2 : w2.cell? ⟨w.heap.size, 2, none⟩ = some (.int .i64 l) := cell_of_row _ _ 2 _ _ _ hg0
      have x3 : w2.cell? ⟨w.heap.size, 3, none⟩ = some (.int .i64 t) := cell_of_row _ _ 3 _ _ _ hg0
      have y0 : w2.cell? ⟨w.heap.size + 1, 0, none⟩ = some (.int .i64 0) := cell_of_row _ _ 0 _ _ _ hg1
      have y1 : w2.cell? ⟨w.heap.size + 1, 1, none⟩ = some (.int .i64 0) := cell_of_row _ _ 1 _ _ _ hg1
      have y2 : w2.cell? ⟨w.heap.size + 1, 2, none⟩ = some (.int .i64 0) := cell_of_row _ _ 2 _ _ _ hg1
      have y3 : w2.cell? ⟨w.heap.size + 1, 3, none⟩ = some (.int .i64 0) := cell_of_row _ _ 3 _ _ _ hg1
      have f0 : w2.frozen? ⟨w.heap.size + 1, 0, none⟩ = false := frozen_at hg1
      have f1 : w2.frozen? ⟨w.heap.size + 1, 1, none⟩ = false := frozen_at hg1
      have f2 : w2.frozen? ⟨w.heap.size + 1, 2, none⟩ = false := frozen_at hg1
      have f3 : w2.frozen? ⟨w.heap.size + 1, 3, none⟩ = false := frozen_at hg1
      have e0 : w2.frozen? ⟨w.heap.size, 0, none⟩ = false := frozen_at hg0
      have e1 : w2.frozen? ⟨w.heap.size, 1, none⟩ = false := frozen_at hg0
      have e2 : w2.frozen? ⟨w.heap.size, 2, none⟩ = false := frozen_at hg0
      have e3 : w2.frozen? ⟨w.heap.size, 3, none⟩ = false := frozen_at hg0
      go_upto_region 4 with fail
      have hs1 := set4_heap hg0 (.int .i64 r) (.int .i64 u) (.int .i64 L) (.int .i64 T)
      have hd1 := set4_below (w := w2) HB2.out (show w.heap.size ≤ w.heap.size by omega) (.int .i64 r) (.int .i64 u) (.int .i64 L) (.int .i64 T)
      have hf1 := (set4_far (.int .i64 r) (.int .i64 u) (.int .i64 L) (.int .i64 T) (show w.heap.size + 1 ≠ w.heap.size by omega)).trans hg1
      generalize hW1 : set4 w2 w.heap.size (.int .i64 r) (.int .i64 u) (.int .i64 L) (.int .i64 T) = W1 at *
      unfold set4 at hW1
      rw [hW1]
      clear hW1 x0 x1 x2 x3 y0 y1 y2 y3 f0 f1 f2 f3 e0 e1 e2 e3 hg0 hg1
      have hltW : w.heap.size + 1 < W1.heap.size := blk_lt hf1
      have x0 : W1.cell? ⟨w.heap.size, 0, none⟩ = some (.int .i64 r) := cell_of_row _ _ 0 _ _ _ hs1
      have x1 : W1.cell? ⟨w.heap.size, 1, none⟩ = some (.int .i64 u) := cell_of_row _ _ 1 _ _ _ hs1
      have x2 : W1.cell? ⟨w.heap.size, 2, none⟩ = some (.int .i64 L) := cell_of_row _ _ 2 _ _ _ hs1
      have x3 : W1.cell? ⟨w.heap.size, 3, none⟩ = some (.int .i64 T) := cell_of_row _ _ 3 _ _ _ hs1
      have e2 : W1.frozen? ⟨w.heap.size, 2, none⟩ = false := frozen_at hs1
      go_upto_region 9 with fail
      have hs2 := set_heap (i := 2) hs1 (.int .i64 D)
      have hd2 := hd1.setCell (p := ⟨w.heap.size, 2, none⟩) (Nat.le_refl _) (.int .i64 D)
      have hf2 := (Below.heap_setCell W1 ⟨w.heap.size, 2, none⟩ (.int .i64 D) (w.heap.size + 1) (by simp)).trans hf1
      generalize W1.setCell ⟨w.heap.size, 2, none⟩ (.int .i64 D) = W2 at *
      have hs2 : W2.heap[w.heap.size]? = some (.cells #[.int .i64 r, .int .i64 u, .int .i64 D, .int .i64 T] 33 (0, 0)) := hs2
      have hltV : w.heap.size + 1 < W2.heap.size := blk_lt hf2
      have hz := set4_heap hf2 (.int .i64 r) (.int .i64 u) (.int .i64 D) (.int .i64 T)
      have HD := Lib.hid (set4_below hd2 (show w.heap.size ≤ w.heap.size + 1 by omega) (.int .i64 r) (.int .i64 u) (.int .i64 D) (.int .i64 T))
      have v0 : W2.cell? ⟨w.heap.size, 0, none⟩ = some (.int .i64 r) := cell_of_row _ _ 0 _ _ _ hs2
      have v1 : W2.cell? ⟨w.heap.size, 1, none⟩ = some (.int .i64 u) := cell_of_row _ _ 1 _ _ _ hs2
      have v2 : W2.cell? ⟨w.heap.size, 2, none⟩ = some (.int .i64 D) := cell_of_row _ _ 2 _ _ _ hs2
      have v3 : W2.cell? ⟨w.heap.size, 3, none⟩ = some (.int .i64 T) := cell_of_row _ _ 3 _ _ _ hs2
      have y0 : W2.cell? ⟨w.heap.size + 1, 0, none⟩ = some (.int .i64 0) := cell_of_row _ _ 0 _ _ _ hf2
      have y1 : W2.cell? ⟨w.heap.size + 1, 1, none⟩ = some (.int .i64 0) := cell_of_row _ _ 1 _ _ _ hf2
      have y2 : W2.cell? ⟨w.heap.size + 1, 2, none⟩ = some (.int .i64 0) := cell_of_row _ _ 2 _ _ _ hf2
      have y3 : W2.cell? ⟨w.heap.size + 1, 3, none⟩ = some (.int .i64 0) := cell_of_row _ _ 3 _ _ _ hf2
      have f0 : W2.frozen? ⟨w.heap.size + 1, 0, none⟩ = false := frozen_at hf2
      have f1 : W2.frozen? ⟨w.heap.size + 1, 1, none⟩ = false := frozen_at hf2
      have f2 : W2.frozen? ⟨w.heap.size + 1, 2, none⟩ = false := frozen_at hf2
      have f3 : W2.frozen? ⟨w.heap.size + 1, 3, none⟩ = false := frozen_at hf2
      clear hs1 hd1 hf1 hs2 hd2 hf2 x0 x1 x2 x3 e2 hltW
      go_wp2_with fail
      generalize hW : set4 W2 (w.heap.size + 1) (.int .i64 r) (.int .i64 u) (.int .i64 D) (.int .i64 T) = W at *
      unfold set4 at hW
      rw [hW]
      clear hW
      have z0 : W.cell? ⟨w.heap.size + 1, 0, none⟩ = some (.int .i64 r) := cell_of_row W _ 0 _ _ _ hz
      have z1 : W.cell? ⟨w.heap.size + 1, 1, none⟩ = some (.int .i64 u) := cell_of_row W _ 1 _ _ _ hz
      have z2 : W.cell? ⟨w.heap.size + 1, 2, none⟩ = some (.int .i64 D) := cell_of_row W _ 2 _ _ _ hz
      have z3 : W.cell? ⟨w.heap.size + 1, 3, none⟩ = some (.int .i64 T) := cell_of_row W _ 3 _ _ _ hz
      exact bodyPost_ret (v := .tuple #[.agg #[.int .i64 r, .int .i64 u, .int .i64 D, .int .i64 T], .int .i64 n]) (by simp [results, Tryz.results54, go_sem, z0, z1, z2, z3]) rfl ⟨rfl, HD.out⟩
end Go.Proofs.YtlbihcpglcdmmaaGreat.gb
namespace Go.Proofs.YtlbihcpglcdmmaaGreat.gb
open Go.RowKit

end Go.Proofs.YtlbihcpglcdmmaaGreat.gb
namespace Go.Proofs.YtlbihcpglcdmmaaGreat.gb
open Go.RowKit

/-- The least tick at which there are so many. -/
structure IsW (r u l t n x : Int) : Prop where
  low : t ≤ x
  top : x ≤ 1099511627776
  yes : n ≤ fillL r u l t x
  no : ∀ y, t ≤ y → y < x → fillL r u l t y < n
theorem fill_mono {r u l t : Int} (h : rightB r u l t = true) {y z : Int} (hy : t ≤ y) (hyz : y ≤ z) (hz : z ≤ 1099511627776) : fillL r u l t y ≤ fillL r u l t z := by
  obtain ⟨h1, h2, h3, h4, h5, h6⟩ := (rightB_iff r u l t).1 h
  unfold fillL lvl
  rw [near_of y (by omega) (by omega), near_of z (by omega) hz]
  have hm : r * (y - t) ≤ r * (z - t) := Int.mul_le_mul_of_nonneg_left (by omega) h1.1
  have hp : 0 ≤ r * (y - t) := Int.mul_nonneg h1.1 (by omega)
  have hp2 : 0 ≤ r * (z - t) := Int.mul_nonneg h1.1 (by omega)
  generalize r * (y - t) = a at *
  generalize r * (z - t) = b at *
  simp only [h, true_and]
  (repeat' split) <;> omega
theorem field2 (a b c d : Int) (w : World) : (Instr.field 33 (.agg #[.int .i64 a, .int .i64 b, .int .i64 c, .int .i64 d]) 2).run Tryz.prog w = .ok (.int .i64 c) w := by
  first
    | kernel_rfl
    | rfl
    | simp [Instr.field, go_sem]
end Go.Proofs.YtlbihcpglcdmmaaGreat.gb
namespace Go.Proofs.YtlbihcpglcdmmaaGreat.gb
open Go.RowKit

theorem near_mono {m n : Int} (h : m ≤ n) : near m ≤ near n := by unfold near; (repeat' split) <;> omega
theorem lvl_lvl {r u l t a b : Int} (hr : 0 ≤ r) (ha : t ≤ a) (hb : a ≤ b) : lvl r u (lvl r u l t a) a b = lvl r u l t b := by
  have h1 : 0 ≤ r * (a - t) := Int.mul_nonneg hr (by omega)
  have h2 : 0 ≤ r * (b - a) := Int.mul_nonneg hr (by omega)
  have h3 : r * (b - t) = r * (a - t) + r * (b - a) := by rw [← Int.mul_add]; congr 1; omega
  unfold lvl
  rw [h3]
  generalize r * (a - t) = P at *
  generalize r * (b - a) = Q at *
  (repeat' split) <;> omega
theorem fill_same {r u l t now : Int} (h : ¬ t < near now) : fillL r u l t now = l ∧ fillT r u l t now = t := by
  unfold fillL fillT
  rw [if_neg (fun h' => h h'.2), if_neg (fun h' => h h'.2)]
  exact ⟨rfl, rfl⟩
theorem fill_steps {r u l t : Int} (h : rightB r u l t = true) {m n : Int} (hmn : m ≤ n) :
    fillL r u (fillL r u l t m) (fillT r u l t m) n = fillL r u l t n ∧ fillT r u (fillL r u l t m) (fillT r u l t m) n = fillT r u l t n := by
  have hr := (rightB_iff r u l t).1 h
  have hab := near_mono hmn
  have h' := fill_right h m
  by_cases h0 : ¬ t < near m
  · rw [(fill_same h0).1, (fill_same h0).2]
    exact ⟨rfl, rfl⟩
  unfold fillL fillT at h' ⊢
  generalize near m = a at *
  generalize near n = b at *
  by_cases h1 : t < a
  · have c1 : rightB r u l t = true ∧ t < a := ⟨h, h1⟩
    have c2 : rightB r u l t = true ∧ t < b := ⟨h, by omega⟩
    simp only [if_pos c1, if_pos c2] at h' ⊢
    by_cases h2 : a < b
    · have c3 : rightB r u (lvl r u l t a) a = true ∧ a < b := ⟨h', h2⟩
      rw [if_pos c3, if_pos c3]
      exact ⟨lvl_lvl hr.1.1 (by omega) (by omega), rfl⟩
    · obtain rfl : a = b := by omega
      have c3 : ¬ (rightB r u (lvl r u l t a) a = true ∧ a < a) := fun h => by omega
      rw [if_neg c3, if_neg c3]
      exact ⟨rfl, rfl⟩
  · exact absurd h1 h0
theorem fill_back {r u l t : Int} {m n : Int} (h : rightB r u l t = true) (hmn : m ≤ n) :
    fillL r u (fillL r u l t n) (fillT r u l t n) m = fillL r u l t n ∧ fillT r u (fillL r u l t n) (fillT r u l t n) m = fillT r u l t n := by
  have hab := near_mono hmn
  have hT : ¬ fillT r u l t n < near m := by
    unfold fillT
    by_cases h1 : t < near n
    · rw [if_pos ⟨h, h1⟩]; omega
    · rw [if_neg (fun h => h1 h.2)]; omega
  exact fill_same hT
theorem when_ex {r u l t n : Int} (h : rightB r u l t = true) (hn : n ≤ fillL r u l t 1099511627776) : ∃ x, IsW r u l t n x := by
  have hr := (rightB_iff r u l t).1 h
  have key : ∀ (k : Nat), n ≤ fillL r u l t (t + k) → t + k ≤ 1099511627776 → ∃ x, IsW r u l t n x := by
    intro k
    induction k with
    | zero =>
      intro h1 h2
      exact ⟨t, Int.le_refl _, by omega, by simpa using h1, fun y a b => by omega⟩
    | succ k ih =>
      intro h1 h2
      by_cases h3 : n ≤ fillL r u l t (t + k)
      · exact ih h3 (by omega)
      · refine ⟨t + (k + 1 : Nat), by omega, h2, h1, fun y a b => ?_⟩
        have := fill_mono h a (show y ≤ t + k by omega) (by omega)
        omega
  refine key (1099511627776 - t).toNat ?_ (by omega)
  rw [show t + ((1099511627776 - t).toNat : Int) = 1099511627776 by omega]
  exact hn
theorem take_range {L n : Int} (hL : 0 ≤ L) : 0 ≤ takeB L n ∧ takeB L n ≤ L ∧ (0 ≤ n → takeB L n ≤ n) ∧ (n ≤ 0 → takeB L n = 0) ∧ (n ≤ 0 ∨ takeB L n = n ∨ L - takeB L n = 0) := by
  unfold takeB
  refine ⟨?_, ?_, ?_, ?_, ?_⟩ <;> (repeat' split) <;> omega
/-- A level less by what was taken is right, too. -/
theorem less_right {r u l t k : Int} (h : rightB r u l t = true) (h0 : 0 ≤ k) (h1 : k ≤ l) : rightB r u (l - k) t = true := by
  have hr := (rightB_iff r u l t).1 h
  rw [rightB_iff]
  exact ⟨hr.1, hr.2.1, ⟨by omega, by omega⟩, hr.2.2.2.1, hr.2.2.2.2.1, by omega⟩
theorem fillT_ge {r u l t now : Int} (h : rightB r u l t = true) : ¬ fillT r u l t now < near now := by
  unfold fillT
  by_cases h1 : t < near now
  · rw [if_pos ⟨h, h1⟩]; omega
  · rw [if_neg (fun h => h1 h.2)]; exact h1
theorem add_more {a m : Int} (ha : 0 ≤ a ∧ a ≤ 1099511627776) (hm : 0 ≤ m) : a ≤ near (near a + near m) ∧ near (near a + near m) ≤ 1099511627776 := by
  rw [near_of a ha.1 ha.2]
  have := near_range m
  unfold near at *
  (repeat' split at *) <;> omega
theorem more_right {r u l t r' u' : Int} (h : rightB r u l t = true) (h1 : r ≤ r' ∧ r' ≤ 1099511627776) (h2 : u ≤ u' ∧ u' ≤ 1099511627776) : rightB r' u' l t = true := by
  have hr := (rightB_iff r u l t).1 h
  rw [rightB_iff]
  exact ⟨⟨by omega, h1.2⟩, ⟨by omega, h2.2⟩, hr.2.2.1, hr.2.2.2.1, by omega, by omega⟩
theorem more_fill {r u l t r' u' : Int} (h : rightB r u l t = true) (h1 : r ≤ r' ∧ r' ≤ 1099511627776) (h2 : u ≤ u' ∧ u' ≤ 1099511627776) (now : Int) : fillL r u l t now ≤ fillL r' u' l t now := by
  have hr := (rightB_iff r u l t).1 h
  have h' := more_right h h1 h2
  unfold fillL
  by_cases hc : t < near now
  · rw [if_pos ⟨h, hc⟩, if_pos ⟨h', hc⟩]
    have hm : r * (near now - t) ≤ r' * (near now - t) := Int.mul_le_mul_of_nonneg_right h1.1 (by omega)
    unfold lvl
    generalize r * (near now - t) = P at *
    generalize r' * (near now - t) = Q at *
    (repeat' split) <;> omega
  · rw [if_neg (fun h => hc h.2), if_neg (fun h => hc h.2)]
    exact Int.le_refl _
theorem more_most {r u l t r' u' : Int} (h : rightB r u l t = true) (h1 : r ≤ r' ∧ r' ≤ 1099511627776) (h2 : u ≤ u' ∧ u' ≤ 1099511627776) (k : Int) : mostV r u l t k ≤ mostV r' u' l t k := by
  have hr := (rightB_iff r u l t).1 h
  have h' := more_right h h1 h2
  unfold mostV
  rw [if_pos h, if_pos h']
  have hk := near_range k
  have e1 : near r * near k ≤ near r' * near k := Int.mul_le_mul_of_nonneg_right (near_mono h1.1) hk.1
  have e2 := near_mono (near_mono e1)
  have e3 := near_mono h2.1
  exact near_mono (by omega)
/-! A window of ticks. -/
/-- What is taken is no more than there was, and what has come since. -/
theorem window_step {r u l t now L T : Int} (h : rightB r u l t = true) (hL : fillL r u l t now = L) (hT : fillT r u l t now = T) (htn : t ≤ near now) : T = near now ∧ L ≤ l + r * (T - t) ∧ L ≤ u ∧ 0 ≤ L := by
  have hr := (rightB_iff r u l t).1 h
  subst hL hT
  unfold fillL fillT
  by_cases hc : t < near now
  · rw [if_pos ⟨h, hc⟩, if_pos ⟨h, hc⟩]
    have hp : 0 ≤ r * (near now - t) := Int.mul_nonneg hr.1.1 (by omega)
    unfold lvl
    refine ⟨rfl, ?_, ?_, ?_⟩ <;> split <;> omega
  · rw [if_neg (fun h => hc h.2), if_neg (fun h => hc h.2)]
    refine ⟨by omega, ?_, hr.2.2.2.2.2, hr.2.2.1.1⟩
    rw [Int.sub_self, Int.mul_zero]
    omega
theorem near_le {x y : Int} (hx : 0 ≤ x) (h : x ≤ y) : near x ≤ y := by
  unfold near
  (repeat' split) <;> omega
theorem most_fits {r u s d : Int} (hr : 0 ≤ r ∧ r ≤ 1099511627776) (hu : 0 ≤ u ∧ u ≤ 1099511627776) (hd : 0 ≤ d ∧ d ≤ 1099511627776) (h0 : 0 ≤ s) (hs : s ≤ u + r * d) : near s ≤ near (near u + near (near (near r * near d))) := by
  rw [near_of u hu.1 hu.2, near_of r hr.1 hr.2, near_of d hd.1 hd.2]
  have hp : 0 ≤ r * d := Int.mul_nonneg hr.1 hd.1
  generalize r * d = P at *
  unfold near
  (repeat' split) <;> omega
end Go.Proofs.YtlbihcpglcdmmaaGreat.gb

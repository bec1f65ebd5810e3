/-
  Contracts: what dice.Mix, Next, Below, Range, Percent and the document's own fold and Step answer. Conditions: as each states.
  Contracts: the digits that the document's own Of, To and Times tell, and its fold and Step. Conditions: as each states.
  Contract: the document's own Times tells the product's lower, and higher 64 bits. Conditions: as it states.
  Contracts: what dice.Range and Percent, and the document's own low, fold, Mix, Step, Value, Below, Range and Percent answer. Conditions: as each states.
  Contracts: what dice.Range and the document's own Range answer. Conditions: as each states.
-/
import Derived.Test.YtlbihcpglcdmmaaChecked
import Derived.Test.YtlbihcpglcdmmaaShelfB
import Derived.WalkKit
import Derived.Lib.Hide
import Derived.BigQuiet
import Derived.Deep.QuietTactic
import Derived.Laws.Bits64
import Derived.RegionTactic
import Derived.Deep.RegionHeld3
namespace Go.Proofs.Ytlbihcpglcdmmaa.gd
open Go.RowKit

/-- The first, and the second round of Mix, and Mix. -/
def m1 (n : Int) : Int := IntKind.u64.wrap (bits .xor .u64 n (n / 1073741824) * 13787848793156543929)
def m2 (n : Int) : Int := IntKind.u64.wrap (bits .xor .u64 n (n / 134217728) * 10723151780598845931)
def m3 (n : Int) : Int := bits .xor .u64 n (n / 2147483648)
def mixZ (n : Int) : Int := m3 (m2 (m1 n))
/-- The next state. -/
def stepZ (s : Int) : Int := IntKind.u64.wrap (s + 11400714819323198485)

theorem wrap_range (n : Int) : 0 ≤ IntKind.u64.wrap n ∧ IntKind.u64.wrap n < 18446744073709551616 := by rw [IntKind.wrap_u64]; omega
theorem m3_range (n : Int) : 0 ≤ m3 n ∧ m3 n < 18446744073709551616 := wrap_range _
theorem mixZ_range (n : Int) : 0 ≤ mixZ n ∧ mixZ n < 18446744073709551616 := m3_range _
theorem m1_range (n : Int) : 0 ≤ m1 n ∧ m1 n < 18446744073709551616 := wrap_range _
theorem m2_range (n : Int) : 0 ≤ m2 n ∧ m2 n < 18446744073709551616 := wrap_range _
theorem stepZ_range (n : Int) : 0 ≤ stepZ n ∧ stepZ n < 18446744073709551616 := wrap_range _
theorem ret_int {k : IntKind} {a b : Int} (h : a = b) : Ending.returned (.int k a) = .returned (.int k b) := by rw [h]
theorem ret_bool {a b : Bool} (h : a = b) : Ending.returned (.bool a) = .returned (.bool b) := by rw [h]

theorem mix_any (n : Int) (w : World) : Calls Try.prog 79 #[.int .u64 n] w fun e w' => e = .returned (.int .u64 (mixZ n)) ∧ w = w' := by
  go_enter Try.func79, Try.ntmps79
  go_wp2_with fail
  go_ret
  exact ⟨rfl, rfl⟩

theorem next_any (s : Int) (w : World) : Calls Try.prog 76 #[.int .u64 s] w fun e w' => e = .returned (.tuple #[.int .u64 (mixZ (stepZ s)), .int .u64 (stepZ s)]) ∧ w = w' := by
  go_enter Try.func76, Try.ntmps76
  go_wp2_with (go_at_call 79; refine (mix_any _ _).mono ?_; rintro e w' ⟨rfl, rfl⟩)
  go_ret2
  exact ⟨rfl, rfl⟩

theorem mul64_int (x y : Int) (hx0 : 0 ≤ x) (hx : x < 18446744073709551616) (hy0 : 0 ≤ y) (hy : y < 18446744073709551616) (w : World) :
    Calls Try.prog 77 #[.int .u64 x, .int .u64 y] w fun e w' => e = .returned (.tuple #[.int .u64 (x * y / 18446744073709551616), .int .u64 (x * y % 18446744073709551616)]) ∧ w = w' := by
  obtain ⟨a, rfl⟩ := Int.eq_ofNat_of_zero_le hx0
  obtain ⟨b, rfl⟩ := Int.eq_ofNat_of_zero_le hy0
  refine (Try.bits_Mul64 a b (by omega) (by omega) w).mono ?_
  rintro e w' ⟨rfl, rfl⟩
  exact ⟨by simp, rfl⟩

/-- What is taken of a state, below n. -/
def takeZ (s n : Int) : Int := mixZ (stepZ s) * n / 18446744073709551616
theorem takeZ_range (s n : Int) (h : 1 ≤ n) : 0 ≤ takeZ s n ∧ takeZ s n < n := by
  have hv := mixZ_range (stepZ s)
  unfold takeZ
  generalize mixZ (stepZ s) = v at hv
  refine ⟨Int.ediv_nonneg (Int.mul_nonneg hv.1 (by omega)) (by omega), ?_⟩
  rw [Int.ediv_lt_iff_lt_mul (by omega), Int.mul_comm n]
  exact Int.mul_lt_mul_of_pos_right hv.2 (by omega)

theorem below_any (s n : Int) (h : 1 ≤ n) (h1 : n < 9223372036854775808) (w : World) : Calls Try.prog 65 #[.int .u64 s, .int .i64 n] w fun e w' => e = .returned (.tuple #[.int .i64 (takeZ s n), .int .u64 (stepZ s)]) ∧ w = w' := by
  have hv := mixZ_range (stepZ s)
  have ht := takeZ_range s n h
  have HT := Lib.hid (show mixZ (stepZ s) * n / 18446744073709551616 = takeZ s n from rfl)
  have c0 : decide (n < 1) = false := by simp; omega
  go_enter Try.func65, Try.ntmps65
  go_wp2_with fail
  refine (next_any _ _).mono ?_
  rintro e w1 ⟨rfl, rfl⟩
  go_wp2_with fail
  refine (mul64_int _ _ (by omega) (by omega) (by omega) (by omega) _).mono ?_
  rintro e w1 ⟨rfl, rfl⟩
  rw [HT.out]
  go_wp2_with fail
  go_ret2
  exact ⟨rfl, rfl⟩
theorem below_none (s n : Int) (h : n < 1) (w : World) : Calls Try.prog 65 #[.int .u64 s, .int .i64 n] w fun e w' => e = .returned (.tuple #[.int .i64 0, .int .u64 s]) ∧ w = w' := by
  have c0 : decide (n < 1) = true := by simp; omega
  go_enter Try.func65, Try.ntmps65
  go_wp2_with fail
  go_ret2
  exact ⟨rfl, rfl⟩
end Go.Proofs.Ytlbihcpglcdmmaa.gd
namespace Go.Proofs.Ytlbihcpglcdmmaa.gd
open Go.RowKit

theorem set_drewN (w : World) (m : Nat) (a : Addr) (v : Value) : (w.drewN m).setCell a v = (w.setCell a v).drewN m := rfl
theorem set_out (w : World) (cs : Array Value) (t : TypeId) (n j : Nat) (v : Value) (m : Nat) (hn : n = w.heap.size) : ((w.alloc (.cells cs t)).drewN m).setCell ⟨n, j, none⟩ v = (w.alloc (.cells (cs.setIfInBounds j v) t)).drewN m := by
  rw [set_drewN, World.setCell_alloc_at _ _ _ _ _ hn]

theorem below_drewN {B : Nat} {a w : World} (h : Below B a w) (n : Nat) : Below B a (w.drewN n) := ⟨h.os, h.tape, h.output, h.size, h.block⟩

end Go.Proofs.Ytlbihcpglcdmmaa.gd
namespace Go.Proofs.Ytlbihcpglcdmmaa.gd
open Go.RowKit

/-- What the first t rounds of the two loops have added. -/
def sumTo (x0 x1 x2 x3 y0 y1 y2 y3 : Int) : Nat → Int
  | 0 => 0
  | 1 => x0 * y0 * 1
  | 2 => x0 * y0 * 1 + x0 * y1 * 65536
  | 3 => x0 * y0 * 1 + x0 * y1 * 65536 + x0 * y2 * 4294967296
  | 4 => x0 * y0 * 1 + x0 * y1 * 65536 + x0 * y2 * 4294967296 + x0 * y3 * 281474976710656
  | 5 => x0 * y0 * 1 + x0 * y1 * 65536 + x0 * y2 * 4294967296 + x0 * y3 * 281474976710656 + x1 * y0 * 65536
  | 6 => x0 * y0 * 1 + x0 * y1 * 65536 + x0 * y2 * 4294967296 + x0 * y3 * 281474976710656 + x1 * y0 * 65536 + x1 * y1 * 4294967296
  | 7 => x0 * y0 * 1 + x0 * y1 * 65536 + x0 * y2 * 4294967296 + x0 * y3 * 281474976710656 + x1 * y0 * 65536 + x1 * y1 * 4294967296 + x1 * y2 * 281474976710656
  | 8 => x0 * y0 * 1 + x0 * y1 * 65536 + x0 * y2 * 4294967296 + x0 * y3 * 281474976710656 + x1 * y0 * 65536 + x1 * y1 * 4294967296 + x1 * y2 * 281474976710656 + x1 * y3 * 18446744073709551616
  | 9 => x0 * y0 * 1 + x0 * y1 * 65536 + x0 * y2 * 4294967296 + x0 * y3 * 281474976710656 + x1 * y0 * 65536 + x1 * y1 * 4294967296 + x1 * y2 * 281474976710656 + x1 * y3 * 18446744073709551616 + x2 * y0 * 4294967296
  | 10 => x0 * y0 * 1 + x0 * y1 * 65536 + x0 * y2 * 4294967296 + x0 * y3 * 281474976710656 + x1 * y0 * 65536 + x1 * y1 * 4294967296 + x1 * y2 * 281474976710656 + x1 * y3 * 18446744073709551616 + x2 * y0 * 4294967296 + x2 * y1 * 281474976710656
  | 11 => x0 * y0 * 1 + x0 * y1 * 65536 + x0 * y2 * 4294967296 + x0 * y3 * 281474976710656 + x1 * y0 * 65536 + x1 * y1 * 4294967296 + x1 * y2 * 281474976710656 + x1 * y3 * 18446744073709551616 + x2 * y0 * 4294967296 + x2 * y1 * 281474976710656 + x2 * y2 * 18446744073709551616
  | 12 => x0 * y0 * 1 + x0 * y1 * 65536 + x0 * y2 * 4294967296 + x0 * y3 * 281474976710656 + x1 * y0 * 65536 + x1 * y1 * 4294967296 + x1 * y2 * 281474976710656 + x1 * y3 * 18446744073709551616 + x2 * y0 * 4294967296 + x2 * y1 * 281474976710656 + x2 * y2 * 18446744073709551616 + x2 * y3 * 1208925819614629174706176
  | 13 => x0 * y0 * 1 + x0 * y1 * 65536 + x0 * y2 * 4294967296 + x0 * y3 * 281474976710656 + x1 * y0 * 65536 + x1 * y1 * 4294967296 + x1 * y2 * 281474976710656 + x1 * y3 * 18446744073709551616 + x2 * y0 * 4294967296 + x2 * y1 * 281474976710656 + x2 * y2 * 18446744073709551616 + x2 * y3 * 1208925819614629174706176 + x3 * y0 * 281474976710656
  | 14 => x0 * y0 * 1 + x0 * y1 * 65536 + x0 * y2 * 4294967296 + x0 * y3 * 281474976710656 + x1 * y0 * 65536 + x1 * y1 * 4294967296 + x1 * y2 * 281474976710656 + x1 * y3 * 18446744073709551616 + x2 * y0 * 4294967296 + x2 * y1 * 281474976710656 + x2 * y2 * 18446744073709551616 + x2 * y3 * 1208925819614629174706176 + x3 * y0 * 281474976710656 + x3 * y1 * 18446744073709551616
  | 15 => x0 * y0 * 1 + x0 * y1 * 65536 + x0 * y2 * 4294967296 + x0 * y3 * 281474976710656 + x1 * y0 * 65536 + x1 * y1 * 4294967296 + x1 * y2 * 281474976710656 + x1 * y3 * 18446744073709551616 + x2 * y0 * 4294967296 + x2 * y1 * 281474976710656 + x2 * y2 * 18446744073709551616 + x2 * y3 * 1208925819614629174706176 + x3 * y0 * 281474976710656 + x3 * y1 * 18446744073709551616 + x3 * y2 * 1208925819614629174706176
  | _ => x0 * y0 * 1 + x0 * y1 * 65536 + x0 * y2 * 4294967296 + x0 * y3 * 281474976710656 + x1 * y0 * 65536 + x1 * y1 * 4294967296 + x1 * y2 * 281474976710656 + x1 * y3 * 18446744073709551616 + x2 * y0 * 4294967296 + x2 * y1 * 281474976710656 + x2 * y2 * 18446744073709551616 + x2 * y3 * 1208925819614629174706176 + x3 * y0 * 281474976710656 + x3 * y1 * 18446744073709551616 + x3 * y2 * 1208925819614629174706176 + x3 * y3 * 79228162514264337593543950336
def val8 (d0 d1 d2 d3 d4 d5 d6 d7 : Int) : Int := d0 * 1 + d1 * 65536 + d2 * 4294967296 + d3 * 281474976710656 + d4 * 18446744073709551616 + d5 * 1208925819614629174706176 + d6 * 79228162514264337593543950336 + d7 * 5192296858534827628530496329220096
theorem prod_range (x y : Int) (hx : 0 ≤ x ∧ x < 65536) (hy : 0 ≤ y ∧ y < 65536) : 0 ≤ x * y ∧ x * y ≤ 4294836225 :=
  ⟨Int.mul_nonneg hx.1 hy.1, by have := Int.mul_le_mul (show x ≤ 65535 by omega) (show y ≤ 65535 by omega) hy.1 (by omega); omega⟩

theorem digits (n : Int) (h0 : 0 ≤ n) (h1 : n < 18446744073709551616) : ∃ x0 x1 x2 x3 : Int, Hid (n % 65536 = x0 ∧ n / 65536 % 65536 = x1 ∧ n / 4294967296 % 65536 = x2 ∧ n / 281474976710656 = x3) ∧
    (0 ≤ x0 ∧ x0 < 65536) ∧ (0 ≤ x1 ∧ x1 < 65536) ∧ (0 ≤ x2 ∧ x2 < 65536) ∧ (0 ≤ x3 ∧ x3 < 65536) ∧ Hid (n = x0 + x1 * 65536 + x2 * 4294967296 + x3 * 281474976710656) :=
  ⟨_, _, _, _, Lib.hid ⟨rfl, rfl, rfl, rfl⟩, by omega, by omega, by omega, by omega, Lib.hid (by omega)⟩

def TimesPost (a b : Int) (w : World) (e : Ending) (w' : World) : Prop := e = .returned (.tuple #[.int .u64 (a * b % 18446744073709551616), .int .u64 (a * b / 18446744073709551616)]) ∧ Below w.heap.size w w'

set_option maxHeartbeats 2000000 in
theorem prod_end (a b x0 x1 x2 x3 y0 y1 y2 y3 d0 d1 d2 d3 d4 d5 d6 d7 : Int) (HA : Hid (a = x0 + x1 * 65536 + x2 * 4294967296 + x3 * 281474976710656)) (HB : Hid (b = y0 + y1 * 65536 + y2 * 4294967296 + y3 * 281474976710656))
    (HV : Hid (val8 d0 d1 d2 d3 d4 d5 d6 d7 = sumTo x0 x1 x2 x3 y0 y1 y2 y3 16)) (r0 : 0 ≤ d0 ∧ d0 < 65536) (r1 : 0 ≤ d1 ∧ d1 < 65536) (r2 : 0 ≤ d2 ∧ d2 < 65536) (r3 : 0 ≤ d3 ∧ d3 < 65536) :
    d0 + d1 * 65536 + d2 * 4294967296 + d3 * 281474976710656 = a * b % 18446744073709551616 ∧ d4 + d5 * 65536 + d6 * 4294967296 + d7 * 281474976710656 = a * b / 18446744073709551616 := by
  have h : a * b = val8 d0 d1 d2 d3 d4 d5 d6 d7 := by
    rw [HV.out, HA.out, HB.out]
    show _ = x0 * y0 * 1 + x0 * y1 * 65536 + x0 * y2 * 4294967296 + x0 * y3 * 281474976710656 + x1 * y0 * 65536 + x1 * y1 * 4294967296 + x1 * y2 * 281474976710656 + x1 * y3 * 18446744073709551616 + x2 * y0 * 4294967296 + x2 * y1 * 281474976710656 + x2 * y2 * 18446744073709551616 + x2 * y3 * 1208925819614629174706176 + x3 * y0 * 281474976710656 + x3 * y1 * 18446744073709551616 + x3 * y2 * 1208925819614629174706176 + x3 * y3 * 79228162514264337593543950336
    clear HV HA HB r0 r1 r2 r3
    grind
  clear HV HA HB
  rw [h]
  unfold val8
  omega

theorem hv00 (x0 x1 x2 x3 y0 y1 y2 y3 d0 d1 d2 d3 d4 d5 d6 d7 ov : Int) (HV : Hid (val8 d0 d1 d2 d3 d4 d5 d6 d7 + ov * [1, 65536, 4294967296, 281474976710656, 18446744073709551616].getD 0 0 = sumTo x0 x1 x2 x3 y0 y1 y2 y3 (0 + 0))) :
    Hid (val8 ((d0 + x0 * y0 + ov) % 65536) d1 d2 d3 d4 d5 d6 d7 + (d0 + x0 * y0 + ov) / 65536 * [1, 65536, 4294967296, 281474976710656, 18446744073709551616].getD 1 0 = sumTo x0 x1 x2 x3 y0 y1 y2 y3 (0 + 1)) := by
  have h : val8 d0 d1 d2 d3 d4 d5 d6 d7 + ov * 1 = 0 := HV.out
  refine Lib.hid ?_
  show val8 ((d0 + x0 * y0 + ov) % 65536) d1 d2 d3 d4 d5 d6 d7 + (d0 + x0 * y0 + ov) / 65536 * 65536 = x0 * y0 * 1
  unfold val8 at h ⊢
  clear HV
  omega

theorem hv01 (x0 x1 x2 x3 y0 y1 y2 y3 d0 d1 d2 d3 d4 d5 d6 d7 ov : Int) (HV : Hid (val8 d0 d1 d2 d3 d4 d5 d6 d7 + ov * [1, 65536, 4294967296, 281474976710656, 18446744073709551616].getD 1 0 = sumTo x0 x1 x2 x3 y0 y1 y2 y3 (0 + 1))) :
    Hid (val8 d0 ((d1 + x0 * y1 + ov) % 65536) d2 d3 d4 d5 d6 d7 + (d1 + x0 * y1 + ov) / 65536 * [1, 65536, 4294967296, 281474976710656, 18446744073709551616].getD 2 0 = sumTo x0 x1 x2 x3 y0 y1 y2 y3 (0 + 2)) := by
  have h : val8 d0 d1 d2 d3 d4 d5 d6 d7 + ov * 65536 = x0 * y0 * 1 := HV.out
  refine Lib.hid ?_
  show val8 d0 ((d1 + x0 * y1 + ov) % 65536) d2 d3 d4 d5 d6 d7 + (d1 + x0 * y1 + ov) / 65536 * 4294967296 = x0 * y0 * 1 + x0 * y1 * 65536
  unfold val8 at h ⊢
  clear HV
  omega

theorem hv02 (x0 x1 x2 x3 y0 y1 y2 y3 d0 d1 d2 d3 d4 d5 d6 d7 ov : Int) (HV : Hid (val8 d0 d1 d2 d3 d4 d5 d6 d7 + ov * [1, 65536, 4294967296, 281474976710656, 18446744073709551616].getD 2 0 = sumTo x0 x1 x2 x3 y0 y1 y2 y3 (0 + 2))) :
    Hid (val8 d0 d1 ((d2 + x0 * y2 + ov) % 65536) d3 d4 d5 d6 d7 + (d2 + x0 * y2 + ov) / 65536 * [1, 65536, 4294967296, 281474976710656, 18446744073709551616].getD 3 0 = sumTo x0 x1 x2 x3 y0 y1 y2 y3 (0 + 3)) := by
  have h : val8 d0 d1 d2 d3 d4 d5 d6 d7 + ov * 4294967296 = x0 * y0 * 1 + x0 * y1 * 65536 := HV.out
  refine Lib.hid ?_
  show val8 d0 d1 ((d2 + x0 * y2 + ov) % 65536) d3 d4 d5 d6 d7 + (d2 + x0 * y2 + ov) / 65536 * 281474976710656 = x0 * y0 * 1 + x0 * y1 * 65536 + x0 * y2 * 4294967296
  unfold val8 at h ⊢
  clear HV
  omega

theorem hv03 (x0 x1 x2 x3 y0 y1 y2 y3 d0 d1 d2 d3 d4 d5 d6 d7 ov : Int) (HV : Hid (val8 d0 d1 d2 d3 d4 d5 d6 d7 + ov * [1, 65536, 4294967296, 281474976710656, 18446744073709551616].getD 3 0 = sumTo x0 x1 x2 x3 y0 y1 y2 y3 (0 + 3))) :
    Hid (val8 d0 d1 d2 ((d3 + x0 * y3 + ov) % 65536) d4 d5 d6 d7 + (d3 + x0 * y3 + ov) / 65536 * [1, 65536, 4294967296, 281474976710656, 18446744073709551616].getD 4 0 = sumTo x0 x1 x2 x3 y0 y1 y2 y3 (0 + 4)) := by
  have h : val8 d0 d1 d2 d3 d4 d5 d6 d7 + ov * 281474976710656 = x0 * y0 * 1 + x0 * y1 * 65536 + x0 * y2 * 4294967296 := HV.out
  refine Lib.hid ?_
  show val8 d0 d1 d2 ((d3 + x0 * y3 + ov) % 65536) d4 d5 d6 d7 + (d3 + x0 * y3 + ov) / 65536 * 18446744073709551616 = x0 * y0 * 1 + x0 * y1 * 65536 + x0 * y2 * 4294967296 + x0 * y3 * 281474976710656
  unfold val8 at h ⊢
  clear HV
  omega

theorem hv04 (x0 x1 x2 x3 y0 y1 y2 y3 d0 d1 d2 d3 d4 d5 d6 d7 ov : Int) (HV : Hid (val8 d0 d1 d2 d3 d4 d5 d6 d7 + ov * [1, 65536, 4294967296, 281474976710656, 18446744073709551616].getD 4 0 = sumTo x0 x1 x2 x3 y0 y1 y2 y3 (0 + 4))) :
    Hid (val8 d0 d1 d2 d3 (d4 + ov) d5 d6 d7 = sumTo x0 x1 x2 x3 y0 y1 y2 y3 (4 * 1)) := by
  have h : val8 d0 d1 d2 d3 d4 d5 d6 d7 + ov * 18446744073709551616 = x0 * y0 * 1 + x0 * y1 * 65536 + x0 * y2 * 4294967296 + x0 * y3 * 281474976710656 := HV.out
  refine Lib.hid ?_
  show val8 d0 d1 d2 d3 (d4 + ov) d5 d6 d7 = x0 * y0 * 1 + x0 * y1 * 65536 + x0 * y2 * 4294967296 + x0 * y3 * 281474976710656
  unfold val8 at h ⊢
  clear HV
  omega

theorem hv10 (x0 x1 x2 x3 y0 y1 y2 y3 d0 d1 d2 d3 d4 d5 d6 d7 ov : Int) (HV : Hid (val8 d0 d1 d2 d3 d4 d5 d6 d7 + ov * [65536, 4294967296, 281474976710656, 18446744073709551616, 1208925819614629174706176].getD 0 0 = sumTo x0 x1 x2 x3 y0 y1 y2 y3 (4 + 0))) :
    Hid (val8 d0 ((d1 + x1 * y0 + ov) % 65536) d2 d3 d4 d5 d6 d7 + (d1 + x1 * y0 + ov) / 65536 * [65536, 4294967296, 281474976710656, 18446744073709551616, 1208925819614629174706176].getD 1 0 = sumTo x0 x1 x2 x3 y0 y1 y2 y3 (4 + 1)) := by
  have h : val8 d0 d1 d2 d3 d4 d5 d6 d7 + ov * 65536 = x0 * y0 * 1 + x0 * y1 * 65536 + x0 * y2 * 4294967296 + x0 * y3 * 281474976710656 := HV.out
  refine Lib.hid ?_
  show val8 d0 ((d1 + x1 * y0 + ov) % 65536) d2 d3 d4 d5 d6 d7 + (d1 + x1 * y0 + ov) / 65536 * 4294967296 = x0 * y0 * 1 + x0 * y1 * 65536 + x0 * y2 * 4294967296 + x0 * y3 * 281474976710656 + x1 * y0 * 65536
  unfold val8 at h ⊢
  clear HV
  omega

theorem hv11 (x0 x1 x2 x3 y0 y1 y2 y3 d0 d1 d2 d3 d4 d5 d6 d7 ov : Int) (HV : Hid (val8 d0 d1 d2 d3 d4 d5 d6 d7 + ov * [65536, 4294967296, 281474976710656, 18446744073709551616, 1208925819614629174706176].getD 1 0 = sumTo x0 x1 x2 x3 y0 y1 y2 y3 (4 + 1))) :
    Hid (val8 d0 d1 ((d2 + x1 * y1 + ov) % 65536) d3 d4 d5 d6 d7 + (d2 + x1 * y1 + ov) / 65536 * [65536, 4294967296, 281474976710656, 18446744073709551616, 1208925819614629174706176].getD 2 0 = sumTo x0 x1 x2 x3 y0 y1 y2 y3 (4 + 2)) := by
  have h : val8 d0 d1 d2 d3 d4 d5 d6 d7 + ov * 4294967296 = x0 * y0 * 1 + x0 * y1 * 65536 + x0 * y2 * 4294967296 + x0 * y3 * 281474976710656 + x1 * y0 * 65536 := HV.out
  refine Lib.hid ?_
  show val8 d0 d1 ((d2 + x1 * y1 + ov) % 65536) d3 d4 d5 d6 d7 + (d2 + x1 * y1 + ov) / 65536 * 281474976710656 = x0 * y0 * 1 + x0 * y1 * 65536 + x0 * y2 * 4294967296 + x0 * y3 * 281474976710656 + x1 * y0 * 65536 + x1 * y1 * 4294967296
  unfold val8 at h ⊢
  clear HV
  omega

theorem hv12 (x0 x1 x2 x3 y0 y1 y2 y3 d0 d1 d2 d3 d4 d5 d6 d7 ov : Int) (HV : Hid (val8 d0 d1 d2 d3 d4 d5 d6 d7 + ov * [65536, 4294967296, 281474976710656, 18446744073709551616, 1208925819614629174706176].getD 2 0 = sumTo x0 x1 x2 x3 y0 y1 y2 y3 (4 + 2))) :
    Hid (val8 d0 d1 d2 ((d3 + x1 * y2 + ov) % 65536) d4 d5 d6 d7 + (d3 + x1 * y2 + ov) / 65536 * [65536, 4294967296, 281474976710656, 18446744073709551616, 1208925819614629174706176].getD 3 0 = sumTo x0 x1 x2 x3 y0 y1 y2 y3 (4 + 3)) := by
  have h : val8 d0 d1 d2 d3 d4 d5 d6 d7 + ov * 281474976710656 = x0 * y0 * 1 + x0 * y1 * 65536 + x0 * y2 * 4294967296 + x0 * y3 * 281474976710656 + x1 * y0 * 65536 + x1 * y1 * 4294967296 := HV.out
  refine Lib.hid ?_
  show val8 d0 d1 d2 ((d3 + x1 * y2 + ov) % 65536) d4 d5 d6 d7 + (d3 + x1 * y2 + ov) / 65536 * 18446744073709551616 = x0 * y0 * 1 + x0 * y1 * 65536 + x0 * y2 * 4294967296 + x0 * y3 * 281474976710656 + x1 * y0 * 65536 + x1 * y1 * 4294967296 + x1 * y2 * 281474976710656
  unfold val8 at h ⊢
  clear HV
  omega

theorem hv13 (x0 x1 x2 x3 y0 y1 y2 y3 d0 d1 d2 d3 d4 d5 d6 d7 ov : Int) (HV : Hid (val8 d0 d1 d2 d3 d4 d5 d6 d7 + ov * [65536, 4294967296, 281474976710656, 18446744073709551616, 1208925819614629174706176].getD 3 0 = sumTo x0 x1 x2 x3 y0 y1 y2 y3 (4 + 3))) :
    Hid (val8 d0 d1 d2 d3 ((d4 + x1 * y3 + ov) % 65536) d5 d6 d7 + (d4 + x1 * y3 + ov) / 65536 * [65536, 4294967296, 281474976710656, 18446744073709551616, 1208925819614629174706176].getD 4 0 = sumTo x0 x1 x2 x3 y0 y1 y2 y3 (4 + 4)) := by
  have h : val8 d0 d1 d2 d3 d4 d5 d6 d7 + ov * 18446744073709551616 = x0 * y0 * 1 + x0 * y1 * 65536 + x0 * y2 * 4294967296 + x0 * y3 * 281474976710656 + x1 * y0 * 65536 + x1 * y1 * 4294967296 + x1 * y2 * 281474976710656 := HV.out
  refine Lib.hid ?_
  show val8 d0 d1 d2 d3 ((d4 + x1 * y3 + ov) % 65536) d5 d6 d7 + (d4 + x1 * y3 + ov) / 65536 * 1208925819614629174706176 = x0 * y0 * 1 + x0 * y1 * 65536 + x0 * y2 * 4294967296 + x0 * y3 * 281474976710656 + x1 * y0 * 65536 + x1 * y1 * 4294967296 + x1 * y2 * 281474976710656 + x1 * y3 * 18446744073709551616
  unfold val8 at h ⊢
  clear HV
  omega

theorem hv14 (x0 x1 x2 x3 y0 y1 y2 y3 d0 d1 d2 d3 d4 d5 d6 d7 ov : Int) (HV : Hid (val8 d0 d1 d2 d3 d4 d5 d6 d7 + ov * [65536, 4294967296, 281474976710656, 18446744073709551616, 1208925819614629174706176].getD 4 0 = sumTo x0 x1 x2 x3 y0 y1 y2 y3 (4 + 4))) :
    Hid (val8 d0 d1 d2 d3 d4 (d5 + ov) d6 d7 = sumTo x0 x1 x2 x3 y0 y1 y2 y3 (4 * 2)) := by
  have h : val8 d0 d1 d2 d3 d4 d5 d6 d7 + ov * 1208925819614629174706176 = x0 * y0 * 1 + x0 * y1 * 65536 + x0 * y2 * 4294967296 + x0 * y3 * 281474976710656 + x1 * y0 * 65536 + x1 * y1 * 4294967296 + x1 * y2 * 281474976710656 + x1 * y3 * 18446744073709551616 := HV.out
  refine Lib.hid ?_
  show val8 d0 d1 d2 d3 d4 (d5 + ov) d6 d7 = x0 * y0 * 1 + x0 * y1 * 65536 + x0 * y2 * 4294967296 + x0 * y3 * 281474976710656 + x1 * y0 * 65536 + x1 * y1 * 4294967296 + x1 * y2 * 281474976710656 + x1 * y3 * 18446744073709551616
  unfold val8 at h ⊢
  clear HV
  omega

theorem hv20 (x0 x1 x2 x3 y0 y1 y2 y3 d0 d1 d2 d3 d4 d5 d6 d7 ov : Int) (HV : Hid (val8 d0 d1 d2 d3 d4 d5 d6 d7 + ov * [4294967296, 281474976710656, 18446744073709551616, 1208925819614629174706176, 79228162514264337593543950336].getD 0 0 = sumTo x0 x1 x2 x3 y0 y1 y2 y3 (8 + 0))) :
    Hid (val8 d0 d1 ((d2 + x2 * y0 + ov) % 65536) d3 d4 d5 d6 d7 + (d2 + x2 * y0 + ov) / 65536 * [4294967296, 281474976710656, 18446744073709551616, 1208925819614629174706176, 79228162514264337593543950336].getD 1 0 = sumTo x0 x1 x2 x3 y0 y1 y2 y3 (8 + 1)) := by
  have h : val8 d0 d1 d2 d3 d4 d5 d6 d7 + ov * 4294967296 = x0 * y0 * 1 + x0 * y1 * 65536 + x0 * y2 * 4294967296 + x0 * y3 * 281474976710656 + x1 * y0 * 65536 + x1 * y1 * 4294967296 + x1 * y2 * 281474976710656 + x1 * y3 * 18446744073709551616 := HV.out
  refine Lib.hid ?_
  show val8 d0 d1 ((d2 + x2 * y0 + ov) % 65536) d3 d4 d5 d6 d7 + (d2 + x2 * y0 + ov) / 65536 * 281474976710656 = x0 * y0 * 1 + x0 * y1 * 65536 + x0 * y2 * 4294967296 + x0 * y3 * 281474976710656 + x1 * y0 * 65536 + x1 * y1 * 4294967296 + x1 * y2 * 281474976710656 + x1 * y3 * 18446744073709551616 + x2 * y0 * 4294967296
  unfold val8 at h ⊢
  clear HV
  omega

theorem hv21 (x0 x1 x2 x3 y0 y1 y2 y3 d0 d1 d2 d3 d4 d5 d6 d7 ov : Int) (HV : Hid (val8 d0 d1 d2 d3 d4 d5 d6 d7 + ov * [4294967296, 281474976710656, 18446744073709551616, 1208925819614629174706176, 79228162514264337593543950336].getD 1 0 = sumTo x0 x1 x2 x3 y0 y1 y2 y3 (8 + 1))) :
    Hid (val8 d0 d1 d2 ((d3 + x2 * y1 + ov) % 65536) d4 d5 d6 d7 + (d3 + x2 * y1 + ov) / 65536 * [4294967296, 281474976710656, 18446744073709551616, 1208925819614629174706176, 79228162514264337593543950336].getD 2 0 = sumTo x0 x1 x2 x3 y0 y1 y2 y3 (8 + 2)) := by
  have h : val8 d0 d1 d2 d3 d4 d5 d6 d7 + ov * 281474976710656 = x0 * y0 * 1 + x0 * y1 * 65536 + x0 * y2 * 4294967296 + x0 * y3 * 281474976710656 + x1 * y0 * 65536 + x1 * y1 * 4294967296 + x1 * y2 * 281474976710656 + x1 * y3 * 18446744073709551616 + x2 * y0 * 4294967296 := HV.out
  refine Lib.hid ?_
  show val8 d0 d1 d2 ((d3 + x2 * y1 + ov) % 65536) d4 d5 d6 d7 + (d3 + x2 * y1 + ov) / 65536 * 18446744073709551616 = x0 * y0 * 1 + x0 * y1 * 65536 + x0 * y2 * 4294967296 + x0 * y3 * 281474976710656 + x1 * y0 * 65536 + x1 * y1 * 4294967296 + x1 * y2 * 281474976710656 + x1 * y3 * 18446744073709551616 + x2 * y0 * 4294967296 + x2 * y1 * 281474976710656
  unfold val8 at h ⊢
  clear HV
  omega

theorem hv22 (x0 x1 x2 x3 y0 y1 y2 y3 d0 d1 d2 d3 d4 d5 d6 d7 ov : Int) (HV : Hid (val8 d0 d1 d2 d3 d4 d5 d6 d7 + ov * [4294967296, 281474976710656, 18446744073709551616, 1208925819614629174706176, 79228162514264337593543950336].getD 2 0 = sumTo x0 x1 x2 x3 y0 y1 y2 y3 (8 + 2))) :
    Hid (val8 d0 d1 d2 d3 ((d4 + x2 * y2 + ov) % 65536) d5 d6 d7 + (d4 + x2 * y2 + ov) / 65536 * [4294967296, 281474976710656, 18446744073709551616, 1208925819614629174706176, 79228162514264337593543950336].getD 3 0 = sumTo x0 x1 x2 x3 y0 y1 y2 y3 (8 + 3)) := by
  have h : val8 d0 d1 d2 d3 d4 d5 d6 d7 + ov * 18446744073709551616 = x0 * y0 * 1 + x0 * y1 * 65536 + x0 * y2 * 4294967296 + x0 * y3 * 281474976710656 + x1 * y0 * 65536 + x1 * y1 * 4294967296 + x1 * y2 * 281474976710656 + x1 * y3 * 18446744073709551616 + x2 * y0 * 4294967296 + x2 * y1 * 281474976710656 := HV.out
  refine Lib.hid ?_
  show val8 d0 d1 d2 d3 ((d4 + x2 * y2 + ov) % 65536) d5 d6 d7 + (d4 + x2 * y2 + ov) / 65536 * 1208925819614629174706176 = x0 * y0 * 1 + x0 * y1 * 65536 + x0 * y2 * 4294967296 + x0 * y3 * 281474976710656 + x1 * y0 * 65536 + x1 * y1 * 4294967296 + x1 * y2 * 281474976710656 + x1 * y3 * 18446744073709551616 + x2 * y0 * 4294967296 + x2 * y1 * 281474976710656 + x2 * y2 * 18446744073709551616
  unfold val8 at h ⊢
  clear HV
  omega

theorem hv23 (x0 x1 x2 x3 y0 y1 y2 y3 d0 d1 d2 d3 d4 d5 d6 d7 ov : Int) (HV : Hid (val8 d0 d1 d2 d3 d4 d5 d6 d7 + ov * [4294967296, 281474976710656, 18446744073709551616, 1208925819614629174706176, 79228162514264337593543950336].getD 3 0 = sumTo x0 x1 x2 x3 y0 y1 y2 y3 (8 + 3))) :
    Hid (val8 d0 d1 d2 d3 d4 ((d5 + x2 * y3 + ov) % 65536) d6 d7 + (d5 + x2 * y3 + ov) / 65536 * [4294967296, 281474976710656, 18446744073709551616, 1208925819614629174706176, 79228162514264337593543950336].getD 4 0 = sumTo x0 x1 x2 x3 y0 y1 y2 y3 (8 + 4)) := by
  have h : val8 d0 d1 d2 d3 d4 d5 d6 d7 + ov * 1208925819614629174706176 = x0 * y0 * 1 + x0 * y1 * 65536 + x0 * y2 * 4294967296 + x0 * y3 * 281474976710656 + x1 * y0 * 65536 + x1 * y1 * 4294967296 + x1 * y2 * 281474976710656 + x1 * y3 * 18446744073709551616 + x2 * y0 * 4294967296 + x2 * y1 * 281474976710656 + x2 * y2 * 18446744073709551616 := HV.out
  refine Lib.hid ?_
  show val8 d0 d1 d2 d3 d4 ((d5 + x2 * y3 + ov) % 65536) d6 d7 + (d5 + x2 * y3 + ov) / 65536 * 79228162514264337593543950336 = x0 * y0 * 1 + x0 * y1 * 65536 + x0 * y2 * 4294967296 + x0 * y3 * 281474976710656 + x1 * y0 * 65536 + x1 * y1 * 4294967296 + x1 * y2 * 281474976710656 + x1 * y3 * 18446744073709551616 + x2 * y0 * 4294967296 + x2 * y1 * 281474976710656 + x2 * y2 * 18446744073709551616 + x2 * y3 * 1208925819614629174706176
  unfold val8 at h ⊢
  clear HV
  omega

theorem hv24 (x0 x1 x2 x3 y0 y1 y2 y3 d0 d1 d2 d3 d4 d5 d6 d7 ov : Int) (HV : Hid (val8 d0 d1 d2 d3 d4 d5 d6 d7 + ov * [4294967296, 281474976710656, 18446744073709551616, 1208925819614629174706176, 79228162514264337593543950336].getD 4 0 = sumTo x0 x1 x2 x3 y0 y1 y2 y3 (8 + 4))) :
    Hid (val8 d0 d1 d2 d3 d4 d5 (d6 + ov) d7 = sumTo x0 x1 x2 x3 y0 y1 y2 y3 (4 * 3)) := by
  have h : val8 d0 d1 d2 d3 d4 d5 d6 d7 + ov * 79228162514264337593543950336 = x0 * y0 * 1 + x0 * y1 * 65536 + x0 * y2 * 4294967296 + x0 * y3 * 281474976710656 + x1 * y0 * 65536 + x1 * y1 * 4294967296 + x1 * y2 * 281474976710656 + x1 * y3 * 18446744073709551616 + x2 * y0 * 4294967296 + x2 * y1 * 281474976710656 + x2 * y2 * 18446744073709551616 + x2 * y3 * 1208925819614629174706176 := HV.out
  refine Lib.hid ?_
  show val8 d0 d1 d2 d3 d4 d5 (d6 + ov) d7 = x0 * y0 * 1 + x0 * y1 * 65536 + x0 * y2 * 4294967296 + x0 * y3 * 281474976710656 + x1 * y0 * 65536 + x1 * y1 * 4294967296 + x1 * y2 * 281474976710656 + x1 * y3 * 18446744073709551616 + x2 * y0 * 4294967296 + x2 * y1 * 281474976710656 + x2 * y2 * 18446744073709551616 + x2 * y3 * 1208925819614629174706176
  unfold val8 at h ⊢
  clear HV
  omega

theorem hv30 (x0 x1 x2 x3 y0 y1 y2 y3 d0 d1 d2 d3 d4 d5 d6 d7 ov : Int) (HV : Hid (val8 d0 d1 d2 d3 d4 d5 d6 d7 + ov * [281474976710656, 18446744073709551616, 1208925819614629174706176, 79228162514264337593543950336, 5192296858534827628530496329220096].getD 0 0 = sumTo x0 x1 x2 x3 y0 y1 y2 y3 (12 + 0))) :
    Hid (val8 d0 d1 d2 ((d3 + x3 * y0 + ov) % 65536) d4 d5 d6 d7 + (d3 + x3 * y0 + ov) / 65536 * [281474976710656, 18446744073709551616, 1208925819614629174706176, 79228162514264337593543950336, 5192296858534827628530496329220096].getD 1 0 = sumTo x0 x1 x2 x3 y0 y1 y2 y3 (12 + 1)) := by
  have h : val8 d0 d1 d2 d3 d4 d5 d6 d7 + ov * 281474976710656 = x0 * y0 * 1 + x0 * y1 * 65536 + x0 * y2 * 4294967296 + x0 * y3 * 281474976710656 + x1 * y0 * 65536 + x1 * y1 * 4294967296 + x1 * y2 * 281474976710656 + x1 * y3 * 18446744073709551616 + x2 * y0 * 4294967296 + x2 * y1 * 281474976710656 + x2 * y2 * 18446744073709551616 + x2 * y3 * 1208925819614629174706176 := HV.out
  refine Lib.hid ?_
  show val8 d0 d1 d2 ((d3 + x3 * y0 + ov) % 65536) d4 d5 d6 d7 + (d3 + x3 * y0 + ov) / 65536 * 18446744073709551616 = x0 * y0 * 1 + x0 * y1 * 65536 + x0 * y2 * 4294967296 + x0 * y3 * 281474976710656 + x1 * y0 * 65536 + x1 * y1 * 4294967296 + x1 * y2 * 281474976710656 + x1 * y3 * 18446744073709551616 + x2 * y0 * 4294967296 + x2 * y1 * 281474976710656 + x2 * y2 * 18446744073709551616 + x2 * y3 * 1208925819614629174706176 + x3 * y0 * 281474976710656
  unfold val8 at h ⊢
  clear HV
  omega

theorem hv31 (x0 x1 x2 x3 y0 y1 y2 y3 d0 d1 d2 d3 d4 d5 d6 d7 ov : Int) (HV : Hid (val8 d0 d1 d2 d3 d4 d5 d6 d7 + ov * [281474976710656, 18446744073709551616, 1208925819614629174706176, 79228162514264337593543950336, 5192296858534827628530496329220096].getD 1 0 = sumTo x0 x1 x2 x3 y0 y1 y2 y3 (12 + 1))) :
    Hid (val8 d0 d1 d2 d3 ((d4 + x3 * y1 + ov) % 65536) d5 d6 d7 + (d4 + x3 * y1 + ov) / 65536 * [281474976710656, 18446744073709551616, 1208925819614629174706176, 79228162514264337593543950336, 5192296858534827628530496329220096].getD 2 0 = sumTo x0 x1 x2 x3 y0 y1 y2 y3 (12 + 2)) := by
  have h : val8 d0 d1 d2 d3 d4 d5 d6 d7 + ov * 18446744073709551616 = x0 * y0 * 1 + x0 * y1 * 65536 + x0 * y2 * 4294967296 + x0 * y3 * 281474976710656 + x1 * y0 * 65536 + x1 * y1 * 4294967296 + x1 * y2 * 281474976710656 + x1 * y3 * 18446744073709551616 + x2 * y0 * 4294967296 + x2 * y1 * 281474976710656 + x2 * y2 * 18446744073709551616 + x2 * y3 * 1208925819614629174706176 + x3 * y0 * 281474976710656 := HV.out
  refine Lib.hid ?_
  show val8 d0 d1 d2 d3 ((d4 + x3 * y1 + ov) % 65536) d5 d6 d7 + (d4 + x3 * y1 + ov) / 65536 * 1208925819614629174706176 = x0 * y0 * 1 + x0 * y1 * 65536 + x0 * y2 * 4294967296 + x0 * y3 * 281474976710656 + x1 * y0 * 65536 + x1 * y1 * 4294967296 + x1 * y2 * 281474976710656 + x1 * y3 * 18446744073709551616 + x2 * y0 * 4294967296 + x2 * y1 * 281474976710656 + x2 * y2 * 18446744073709551616 + x2 * y3 * 1208925819614629174706176 + x3 * y0 * 281474976710656 + x3 * y1 * 18446744073709551616
  unfold val8 at h ⊢
  clear HV
  omega

theorem hv32 (x0 x1 x2 x3 y0 y1 y2 y3 d0 d1 d2 d3 d4 d5 d6 d7 ov : Int) (HV : Hid (val8 d0 d1 d2 d3 d4 d5 d6 d7 + ov * [281474976710656, 18446744073709551616, 1208925819614629174706176, 79228162514264337593543950336, 5192296858534827628530496329220096].getD 2 0 = sumTo x0 x1 x2 x3 y0 y1 y2 y3 (12 + 2))) :
    Hid (val8 d0 d1 d2 d3 d4 ((d5 + x3 * y2 + ov) % 65536) d6 d7 + (d5 + x3 * y2 + ov) / 65536 * [281474976710656, 18446744073709551616, 1208925819614629174706176, 79228162514264337593543950336, 5192296858534827628530496329220096].getD 3 0 = sumTo x0 x1 x2 x3 y0 y1 y2 y3 (12 + 3)) := by
  have h : val8 d0 d1 d2 d3 d4 d5 d6 d7 + ov * 1208925819614629174706176 = x0 * y0 * 1 + x0 * y1 * 65536 + x0 * y2 * 4294967296 + x0 * y3 * 281474976710656 + x1 * y0 * 65536 + x1 * y1 * 4294967296 + x1 * y2 * 281474976710656 + x1 * y3 * 18446744073709551616 + x2 * y0 * 4294967296 + x2 * y1 * 281474976710656 + x2 * y2 * 18446744073709551616 + x2 * y3 * 1208925819614629174706176 + x3 * y0 * 281474976710656 + x3 * y1 * 18446744073709551616 := HV.out
  refine Lib.hid ?_
  show val8 d0 d1 d2 d3 d4 ((d5 + x3 * y2 + ov) % 65536) d6 d7 + (d5 + x3 * y2 + ov) / 65536 * 79228162514264337593543950336 = x0 * y0 * 1 + x0 * y1 * 65536 + x0 * y2 * 4294967296 + x0 * y3 * 281474976710656 + x1 * y0 * 65536 + x1 * y1 * 4294967296 + x1 * y2 * 281474976710656 + x1 * y3 * 18446744073709551616 + x2 * y0 * 4294967296 + x2 * y1 * 281474976710656 + x2 * y2 * 18446744073709551616 + x2 * y3 * 1208925819614629174706176 + x3 * y0 * 281474976710656 + x3 * y1 * 18446744073709551616 + x3 * y2 * 1208925819614629174706176
  unfold val8 at h ⊢
  clear HV
  omega

theorem hv33 (x0 x1 x2 x3 y0 y1 y2 y3 d0 d1 d2 d3 d4 d5 d6 d7 ov : Int) (HV : Hid (val8 d0 d1 d2 d3 d4 d5 d6 d7 + ov * [281474976710656, 18446744073709551616, 1208925819614629174706176, 79228162514264337593543950336, 5192296858534827628530496329220096].getD 3 0 = sumTo x0 x1 x2 x3 y0 y1 y2 y3 (12 + 3))) :
    Hid (val8 d0 d1 d2 d3 d4 d5 ((d6 + x3 * y3 + ov) % 65536) d7 + (d6 + x3 * y3 + ov) / 65536 * [281474976710656, 18446744073709551616, 1208925819614629174706176, 79228162514264337593543950336, 5192296858534827628530496329220096].getD 4 0 = sumTo x0 x1 x2 x3 y0 y1 y2 y3 (12 + 4)) := by
  have h : val8 d0 d1 d2 d3 d4 d5 d6 d7 + ov * 79228162514264337593543950336 = x0 * y0 * 1 + x0 * y1 * 65536 + x0 * y2 * 4294967296 + x0 * y3 * 281474976710656 + x1 * y0 * 65536 + x1 * y1 * 4294967296 + x1 * y2 * 281474976710656 + x1 * y3 * 18446744073709551616 + x2 * y0 * 4294967296 + x2 * y1 * 281474976710656 + x2 * y2 * 18446744073709551616 + x2 * y3 * 1208925819614629174706176 + x3 * y0 * 281474976710656 + x3 * y1 * 18446744073709551616 + x3 * y2 * 1208925819614629174706176 := HV.out
  refine Lib.hid ?_
  show val8 d0 d1 d2 d3 d4 d5 ((d6 + x3 * y3 + ov) % 65536) d7 + (d6 + x3 * y3 + ov) / 65536 * 5192296858534827628530496329220096 = x0 * y0 * 1 + x0 * y1 * 65536 + x0 * y2 * 4294967296 + x0 * y3 * 281474976710656 + x1 * y0 * 65536 + x1 * y1 * 4294967296 + x1 * y2 * 281474976710656 + x1 * y3 * 18446744073709551616 + x2 * y0 * 4294967296 + x2 * y1 * 281474976710656 + x2 * y2 * 18446744073709551616 + x2 * y3 * 1208925819614629174706176 + x3 * y0 * 281474976710656 + x3 * y1 * 18446744073709551616 + x3 * y2 * 1208925819614629174706176 + x3 * y3 * 79228162514264337593543950336
  unfold val8 at h ⊢
  clear HV
  omega

theorem hv34 (x0 x1 x2 x3 y0 y1 y2 y3 d0 d1 d2 d3 d4 d5 d6 d7 ov : Int) (HV : Hid (val8 d0 d1 d2 d3 d4 d5 d6 d7 + ov * [281474976710656, 18446744073709551616, 1208925819614629174706176, 79228162514264337593543950336, 5192296858534827628530496329220096].getD 4 0 = sumTo x0 x1 x2 x3 y0 y1 y2 y3 (12 + 4))) :
    Hid (val8 d0 d1 d2 d3 d4 d5 d6 (d7 + ov) = sumTo x0 x1 x2 x3 y0 y1 y2 y3 (4 * 4)) := by
  have h : val8 d0 d1 d2 d3 d4 d5 d6 d7 + ov * 5192296858534827628530496329220096 = x0 * y0 * 1 + x0 * y1 * 65536 + x0 * y2 * 4294967296 + x0 * y3 * 281474976710656 + x1 * y0 * 65536 + x1 * y1 * 4294967296 + x1 * y2 * 281474976710656 + x1 * y3 * 18446744073709551616 + x2 * y0 * 4294967296 + x2 * y1 * 281474976710656 + x2 * y2 * 18446744073709551616 + x2 * y3 * 1208925819614629174706176 + x3 * y0 * 281474976710656 + x3 * y1 * 18446744073709551616 + x3 * y2 * 1208925819614629174706176 + x3 * y3 * 79228162514264337593543950336 := HV.out
  refine Lib.hid ?_
  show val8 d0 d1 d2 d3 d4 d5 d6 (d7 + ov) = x0 * y0 * 1 + x0 * y1 * 65536 + x0 * y2 * 4294967296 + x0 * y3 * 281474976710656 + x1 * y0 * 65536 + x1 * y1 * 4294967296 + x1 * y2 * 281474976710656 + x1 * y3 * 18446744073709551616 + x2 * y0 * 4294967296 + x2 * y1 * 281474976710656 + x2 * y2 * 18446744073709551616 + x2 * y3 * 1208925819614629174706176 + x3 * y0 * 281474976710656 + x3 * y1 * 18446744073709551616 + x3 * y2 * 1208925819614629174706176 + x3 * y3 * 79228162514264337593543950336
  unfold val8 at h ⊢
  clear HV
  omega

theorem below_alloc {w W : World} (h : Below w.heap.size w W) (o : Obj) : Below w.heap.size w (W.alloc o) := h.alloc h.size o
theorem keep_drew {W : World} {a : Addr} {v : Value} (h : W.cell? a = some v) : W.drew.cell? a = some v := h
theorem keep_alloc {W : World} {a : Addr} {v : Value} (o : Obj) (h : W.cell? a = some v) : (W.alloc o).cell? a = some v := (World.cell?_alloc_some W a o (by rw [h]; rfl)).trans h
theorem keep_alloc_drew {W : World} {a : Addr} {v : Value} (o : Obj) (h : W.cell? a = some v) : (W.alloc o).drew.cell? a = some v := keep_drew (keep_alloc o h)
theorem cell_new (w : World) (cs : Array Value) (t : TypeId) (n j m : Nat) (v : Value) (hn : n = w.heap.size) (h : cs[j]? = some v) : ((w.alloc (.cells cs t)).drewN m).cell? ⟨n, j, none⟩ = some v := by
  rw [show ((w.alloc (.cells cs t)).drewN m).cell? ⟨n, j, none⟩ = (w.alloc (.cells cs t)).cell? ⟨n, j, none⟩ from rfl, World.cell?_alloc_at _ _ _ _ hn, h]

end Go.Proofs.Ytlbihcpglcdmmaa.gd
namespace Go.Proofs.Ytlbihcpglcdmmaa.gd
open Go.RowKit

theorem xor_range (a b : Int) : 0 ≤ bits .xor .u64 a b ∧ bits .xor .u64 a b < 18446744073709551616 := wrap_range _

theorem seqB {w w1 w2 : World} (h1 : Below w.heap.size w w1) (h2 : Below w1.heap.size w1 w2) : Below w.heap.size w w2 := h1.trans (h2.mono h1.size)

end Go.Proofs.Ytlbihcpglcdmmaa.gd
namespace Go.Proofs.Ytlbihcpglcdmmaa.gd
open Go.RowKit

theorem range_o1 (s a b : Int) (h : b < a) (w : World) : Calls Try.prog 47 #[.int .u64 s, .int .i64 a, .int .i64 b] w fun e w' => e = .returned (.tuple #[.int .i64 a, .int .u64 s]) ∧ w = w' := by
  have c1 : decide (b < a) = true := by simp; omega
  go_enter Try.func47, Try.ntmps47
  go_wp2_with fail
  go_ret2
  exact ⟨rfl, rfl⟩

theorem range_o2 (s a b : Int) (h : a ≤ b) (h2 : a < -1099511627776) (w : World) : Calls Try.prog 47 #[.int .u64 s, .int .i64 a, .int .i64 b] w fun e w' => e = .returned (.tuple #[.int .i64 a, .int .u64 s]) ∧ w = w' := by
  have c1 : decide (b < a) = false := by simp; omega
  have c2 : decide (a < -1099511627776) = true := by simp; omega
  go_enter Try.func47, Try.ntmps47
  go_wp2_with fail
  go_ret2
  exact ⟨rfl, rfl⟩

theorem range_o3 (s a b : Int) (h : a ≤ b) (h2 : -1099511627776 ≤ a) (h3 : 1099511627776 < b) (w : World) : Calls Try.prog 47 #[.int .u64 s, .int .i64 a, .int .i64 b] w fun e w' => e = .returned (.tuple #[.int .i64 a, .int .u64 s]) ∧ w = w' := by
  have c1 : decide (b < a) = false := by simp; omega
  have c2 : decide (a < -1099511627776) = false := by simp; omega
  have c5 : decide (1099511627776 < b) = true := by simp; omega
  go_enter Try.func47, Try.ntmps47
  go_wp2_with fail
  go_ret2
  exact ⟨rfl, rfl⟩

set_option maxHeartbeats 400000 in
theorem range_in (s a b : Int) (h : a ≤ b) (h2 : -1099511627776 ≤ a) (h3 : b ≤ 1099511627776) (w : World) : Calls Try.prog 47 #[.int .u64 s, .int .i64 a, .int .i64 b] w fun e w' => e = .returned (.tuple #[.int .i64 (a + takeZ s (b - a + 1)), .int .u64 (stepZ s)]) ∧ w = w' := by
  have ht := takeZ_range s (b - a + 1) (by omega)
  have c1 : decide (b < a) = false := by simp; omega
  have c2 : decide (a < -1099511627776) = false := by simp; omega
  have c5 : decide (1099511627776 < b) = false := by simp; omega
  go_enter Try.func47, Try.ntmps47
  go_wp2_with fail
  refine (below_any s (b - a + 1) (by omega) (by omega) _).mono ?_
  rintro e w1 ⟨rfl, rfl⟩
  go_wp2_with fail
  go_ret2
  exact ⟨rfl, rfl⟩

/-- What Range tells: a number, and the state behind it. -/
def rangeV (s a b : Int) : Int := if a ≤ b ∧ -1099511627776 ≤ a ∧ b ≤ 1099511627776 then a + takeZ s (b - a + 1) else a
def rangeS (s a b : Int) : Int := if a ≤ b ∧ -1099511627776 ≤ a ∧ b ≤ 1099511627776 then stepZ s else s
theorem range_any (s a b : Int) (w : World) : Calls Try.prog 47 #[.int .u64 s, .int .i64 a, .int .i64 b] w fun e w' => e = .returned (.tuple #[.int .i64 (rangeV s a b), .int .u64 (rangeS s a b)]) ∧ w = w' := by
  unfold rangeV rangeS
  by_cases h : a ≤ b ∧ -1099511627776 ≤ a ∧ b ≤ 1099511627776
  · rw [if_pos h, if_pos h]
    exact range_in s a b h.1 h.2.1 h.2.2 w
  · rw [if_neg h, if_neg h]
    by_cases h1 : b < a
    · exact range_o1 s a b h1 w
    · by_cases h2 : a < -1099511627776
      · exact range_o2 s a b (by omega) h2 w
      · exact range_o3 s a b (by omega) (by omega) (by omega) w
end Go.Proofs.Ytlbihcpglcdmmaa.gd

/-
  Contracts: what dice.Mix, Next, Below, Range, Percent and the document's own fold and Step answer. Conditions: as each states.
  Contracts: the digits that the document's own Of, To and Times tell, and its fold and Step. Conditions: as each states.
  Contract: the document's own Times tells the product's lower, and higher 64 bits. Conditions: as it states.
  Contracts: what dice.Range and Percent, and the document's own low, fold, Mix, Step, Value, Below, Range and Percent answer. Conditions: as each states.
  Contracts: what dice.Range and the document's own Range answer. Conditions: as each states.
-/
import Derived.Test.YtlbihcpglcdmmaaGreatChecked
import Derived.Test.YtlbihcpglcdmmaaGreatShelfB
import Derived.WalkKit
import Derived.Lib.Hide
import Derived.BigQuiet
import Derived.Deep.QuietTactic
import Derived.Laws.Bits64
import Derived.RegionTactic
import Derived.Deep.RegionHeld3
namespace Go.Proofs.YtlbihcpglcdmmaaGreat.gd
open Go.RowKit

/-- The first, and the second round of Mix, and Mix. -/
def m1 (n : Int) : Int := IntKind.u64.wrap (bits .xor .u64 n (n / 1073741824) * 13787848793156543929)
def m2 (n : Int) : Int := IntKind.u64.wrap (bits .xor .u64 n (n / 134217728) * 10723151780598845931)
def m3 (n : Int) : Int := bits .xor .u64 n (n / 2147483648)
def mixZ (n : Int) : Int := m3 (m2 (m1 n))
/-- The next state. -/
def stepZ (s : Int) : Int := IntKind.u64.wrap (s + 11400714819323198485)

theorem wrap_range (n : Int) : 0 ≤ IntKind.u64.wrap n ∧ IntKind.u64.wrap n < 18446744073709551616 := by rw [IntKind.wrap_u64]; omega
theorem m3_range (n : Int) : 0 ≤ m3 n ∧ m3 n < 18446744073709551616 := wrap_range _
theorem mixZ_range (n : Int) : 0 ≤ mixZ n ∧ mixZ n < 18446744073709551616 := m3_range _
theorem m1_range (n : Int) : 0 ≤ m1 n ∧ m1 n < 18446744073709551616 := wrap_range _
theorem m2_range (n : Int) : 0 ≤ m2 n ∧ m2 n < 18446744073709551616 := wrap_range _
theorem stepZ_range (n : Int) : 0 ≤ stepZ n ∧ stepZ n < 18446744073709551616 := wrap_range _
theorem ret_int {k : IntKind} {a b : Int} (h : a = b) : Ending.returned (.int k a) = .returned (.int k b) := by rw [h]
theorem ret_bool {a b : Bool} (h : a = b) : Ending.returned (.bool a) = .returned (.bool b) := by rw [h]

theorem mix_any (n : Int) (w : World) : Calls Tryz.prog 106 #[.int .u64 n] w fun e w' => e = .returned (.int .u64 (mixZ n)) ∧ w = w' := by
  go_enter Tryz.func106, Tryz.ntmps106
  go_wp2_with fail
  go_ret
  exact ⟨rfl, rfl⟩

theorem next_any (s : Int) (w : World) : Calls Tryz.prog 100 #[.int .u64 s] w fun e w' => e = .returned (.tuple #[.int .u64 (mixZ (stepZ s)), .int .u64 (stepZ s)]) ∧ w = w' := by
  go_enter Tryz.func100, Tryz.ntmps100
  go_wp2_with (go_at_call 106; refine (mix_any _ _).mono ?_; rintro e w' ⟨rfl, rfl⟩)
  go_ret2
  exact ⟨rfl, rfl⟩

theorem mul64_int (x y : Int) (hx0 : 0 ≤ x) (hx : x < 18446744073709551616) (hy0 : 0 ≤ y) (hy : y < 18446744073709551616) (w : World) :
    Calls Tryz.prog 101 #[.int .u64 x, .int .u64 y] w fun e w' => e = .returned (.tuple #[.int .u64 (x * y / 18446744073709551616), .int .u64 (x * y % 18446744073709551616)]) ∧ w = w' := by
  obtain ⟨a, rfl⟩ := Int.eq_ofNat_of_zero_le hx0
  obtain ⟨b, rfl⟩ := Int.eq_ofNat_of_zero_le hy0
  refine (Tryz.bits_Mul64 a b (by omega) (by omega) w).mono ?_
  rintro e w' ⟨rfl, rfl⟩
  exact ⟨by simp, rfl⟩

/-- What is taken of a state, below n. -/
def takeZ (s n : Int) : Int := mixZ (stepZ s) * n / 18446744073709551616
theorem takeZ_range (s n : Int) (h : 1 ≤ n) : 0 ≤ takeZ s n ∧ takeZ s n < n := by
  have hv := mixZ_range (stepZ s)
  unfold takeZ
  generalize mixZ (stepZ s) = v at hv
  refine ⟨Int.ediv_nonneg (Int.mul_nonneg hv.1 (by omega)) (by omega), ?_⟩
  rw [Int.ediv_lt_iff_lt_mul (by omega), Int.mul_comm n]
  exact Int.mul_lt_mul_of_pos_right hv.2 (by omega)

theorem below_any (s n : Int) (h : 1 ≤ n) (h1 : n < 9223372036854775808) (w : World) : Calls Tryz.prog 86 #[.int .u64 s, .int .i64 n] w fun e w' => e = .returned (.tuple #[.int .i64 (takeZ s n), .int .u64 (stepZ s)]) ∧ w = w' := by
  have hv := mixZ_range (stepZ s)
  have ht := takeZ_range s n h
  have HT := Lib.hid (show mixZ (stepZ s) * n / 18446744073709551616 = takeZ s n from rfl)
  have c0 : decide (n < 1) = false := by simp; omega
  go_enter Tryz.func86, Tryz.ntmps86
  go_wp2_with fail
  refine (next_any _ _).mono ?_
  rintro e w1 ⟨rfl, rfl⟩
  go_wp2_with fail
  refine (mul64_int _ _ (by omega) (by omega) (by omega) (by omega) _).mono ?_
  rintro e w1 ⟨rfl, rfl⟩
  rw [HT.out]
  go_wp2_with fail
  go_ret2
  exact ⟨rfl, rfl⟩
theorem below_none (s n : Int) (h : n < 1) (w : World) : Calls Tryz.prog 86 #[.int .u64 s, .int .i64 n] w fun e w' => e = .returned (.tuple #[.int .i64 0, .int .u64 s]) ∧ w = w' := by
  have c0 : decide (n < 1) = true := by simp; omega
  go_enter Tryz.func86, Tryz.ntmps86
  go_wp2_with fail
  go_ret2
  exact ⟨rfl, rfl⟩
end Go.Proofs.YtlbihcpglcdmmaaGreat.gd
namespace Go.Proofs.YtlbihcpglcdmmaaGreat.gd
open Go.RowKit

theorem set_drewN (w : World) (m : Nat) (a : Addr) (v : Value) : (w.drewN m).setCell a v = (w.setCell a v).drewN m := rfl
theorem set_out (w : World) (cs : Array Value) (t : TypeId) (n j : Nat) (v : Value) (m : Nat) (hn : n = w.heap.size) : ((w.alloc (.cells cs t)).drewN m).setCell ⟨n, j, none⟩ v = (w.alloc (.cells (cs.setIfInBounds j v) t)).drewN m := by
  rw [set_drewN, World.setCell_alloc_at _ _ _ _ _ hn]

theorem below_drewN {B : Nat} {a w : World} (h : Below B a w) (n : Nat) : Below B a (w.drewN n) := ⟨h.os, h.tape, h.output, h.size, h.block⟩

set_option maxHeartbeats 800000 in
theorem of_any (n : Int) (h0 : 0 ≤ n) (h1 : n < 18446744073709551616) (w : World) : Calls Tryz.prog 94 #[.int .u64 n] w fun e w' => e = .returned (.agg #[.int .u64 (n % 65536), .int .u64 (n / 65536 % 65536), .int .u64 (n / 4294967296 % 65536), .int .u64 (n / 281474976710656)]) ∧ w' = w.alloc (.cells #[.int .u64 (n % 65536), .int .u64 (n / 65536 % 65536), .int .u64 (n / 4294967296 % 65536), .int .u64 (n / 281474976710656)] 123) := by
  go_enter Tryz.func94, Tryz.ntmps94
  go_wp2_with fail
  exact bodyPost_ret (v := .agg #[.int .u64 (n % 65536), .int .u64 (n / 65536 % 65536), .int .u64 (n / 4294967296 % 65536), .int .u64 (n / 281474976710656)]) (by simp [results, Tryz.results94, go_sem]) rfl ⟨rfl, rfl⟩

set_option maxHeartbeats 800000 in
theorem to_any (a b c d : Int) (ha : 0 ≤ a ∧ a < 65536) (hb : 0 ≤ b ∧ b < 65536) (hc : 0 ≤ c ∧ c < 65536) (hd : 0 ≤ d ∧ d < 65536) (w : World) :
    Calls Tryz.prog 95 #[.agg #[.int .u64 a, .int .u64 b, .int .u64 c, .int .u64 d]] w fun e w' => e = .returned (.int .u64 (a + b * 65536 + c * 4294967296 + d * 281474976710656)) ∧ ∃ o, w' = w.alloc o := by
  go_enter Tryz.func95, Tryz.ntmps95
  go_wp2_with fail
  go_ret
  exact ⟨rfl, _, rfl⟩
end Go.Proofs.YtlbihcpglcdmmaaGreat.gd
namespace Go.Proofs.YtlbihcpglcdmmaaGreat.gd
open Go.RowKit

/-- What the first t rounds of the two loops have added. -/
def sumTo (x0 x1 x2 x3 y0 y1 y2 y3 : Int) : Nat → Int
  | 0 => 0
  | 1 => x0 * y0 * 1
  | 2 => x0 * y0 * 1 + x0 * y1 * 65536
  | 3 => x0 * y0 * 1 + x0 * y1 * 65536 + x0 * y2 * 4294967296
  | 4 => x0 * y0 * 1 + x0 * y1 * 65536 + x0 * y2 * 4294967296 + x0 * y3 * 281474976710656
  | 5 => x0 * y0 * 1 + x0 * y1 * 65536 + x0 * y2 * 4294967296 + x0 * y3 * 281474976710656 + x1 * y0 * 65536
  | 6 => x0 * y0 * 1 + x0 * y1 * 65536 + x0 * y2 * 4294967296 + x0 * y3 * 281474976710656 + x1 * y0 * 65536 + x1 * y1 * 4294967296
  | 7 => x0 * y0 * 1 + x0 * y1 * 65536 + x0 * y2 * 4294967296 + x0 * y3 * 281474976710656 + x1 * y0 * 65536 + x1 * y1 * 4294967296 + x1 * y2 * 281474976710656
  | 8 => x0 * y0 * 1 + x0 * y1 * 65536 + x0 * y2 * 4294967296 + x0 * y3 * 281474976710656 + x1 * y0 * 65536 + x1 * y1 * 4294967296 + x1 * y2 * 281474976710656 + x1 * y3 * 18446744073709551616
  | 9 => x0 * y0 * 1 + x0 * y1 * 65536 + x0 * y2 * 4294967296 + x0 * y3 * 281474976710656 + x1 * y0 * 65536 + x1 * y1 * 4294967296 + x1 * y2 * 281474976710656 + x1 * y3 * 18446744073709551616 + x2 * y0 * 4294967296
  | 10 => x0 * y0 * 1 + x0 * y1 * 65536 + x0 * y2 * 4294967296 + x0 * y3 * 281474976710656 + x1 * y0 * 65536 + x1 * y1 * 4294967296 + x1 * y2 * 281474976710656 + x1 * y3 * 18446744073709551616 + x2 * y0 * 4294967296 + x2 * y1 * 281474976710656
  | 11 => x0 * y0 * 1 + x0 * y1 * 65536 + x0 * y2 * 4294967296 + x0 * y3 * 281474976710656 + x1 * y0 * 65536 + x1 * y1 * 4294967296 + x1 * y2 * 281474976710656 + x1 * y3 * 18446744073709551616 + x2 * y0 * 4294967296 + x2 * y1 * 281474976710656 + x2 * y2 * 18446744073709551616
  | 12 => x0 * y0 * 1 + x0 * y1 * 65536 + x0 * y2 * 4294967296 + x0 * y3 * 281474976710656 + x1 * y0 * 65536 + x1 * y1 * 4294967296 + x1 * y2 * 281474976710656 + x1 * y3 * 18446744073709551616 + x2 * y0 * 4294967296 + x2 * y1 * 281474976710656 + x2 * y2 * 18446744073709551616 + x2 * y3 * 1208925819614629174706176
  | 13 => x0 * y0 * 1 + x0 * y1 * 65536 + x0 * y2 * 4294967296 + x0 * y3 * 281474976710656 + x1 * y0 * 65536 + x1 * y1 * 4294967296 + x1 * y2 * 281474976710656 + x1 * y3 * 18446744073709551616 + x2 * y0 * 4294967296 + x2 * y1 * 281474976710656 + x2 * y2 * 18446744073709551616 + x2 * y3 * 1208925819614629174706176 + x3 * y0 * 281474976710656
  | 14 => x0 * y0 * 1 + x0 * y1 * 65536 + x0 * y2 * 4294967296 + x0 * y3 * 281474976710656 + x1 * y0 * 65536 + x1 * y1 * 4294967296 + x1 * y2 * 281474976710656 + x1 * y3 * 18446744073709551616 + x2 * y0 * 4294967296 + x2 * y1 * 281474976710656 + x2 * y2 * 18446744073709551616 + x2 * y3 * 1208925819614629174706176 + x3 * y0 * 281474976710656 + x3 * y1 * 18446744073709551616
  | 15 => x0 * y0 * 1 + x0 * y1 * 65536 + x0 * y2 * 4294967296 + x0 * y3 * 281474976710656 + x1 * y0 * 65536 + x1 * y1 * 4294967296 + x1 * y2 * 281474976710656 + x1 * y3 * 18446744073709551616 + x2 * y0 * 4294967296 + x2 * y1 * 281474976710656 + x2 * y2 * 18446744073709551616 + x2 * y3 * 1208925819614629174706176 + x3 * y0 * 281474976710656 + x3 * y1 * 18446744073709551616 + x3 * y2 * 1208925819614629174706176
  | _ => x0 * y0 * 1 + x0 * y1 * 65536 + x0 * y2 * 4294967296 + x0 * y3 * 281474976710656 + x1 * y0 * 65536 + x1 * y1 * 4294967296 + x1 * y2 * 281474976710656 + x1 * y3 * 18446744073709551616 + x2 * y0 * 4294967296 + x2 * y1 * 281474976710656 + x2 * y2 * 18446744073709551616 + x2 * y3 * 1208925819614629174706176 + x3 * y0 * 281474976710656 + x3 * y1 * 18446744073709551616 + x3 * y2 * 1208925819614629174706176 + x3 * y3 * 79228162514264337593543950336
def val8 (d0 d1 d2 d3 d4 d5 d6 d7 : Int) : Int := d0 * 1 + d1 * 65536 + d2 * 4294967296 + d3 * 281474976710656 + d4 * 18446744073709551616 + d5 * 1208925819614629174706176 + d6 * 79228162514264337593543950336 + d7 * 5192296858534827628530496329220096
theorem prod_range (x y : Int) (hx : 0 ≤ x ∧ x < 65536) (hy : 0 ≤ y ∧ y < 65536) : 0 ≤ x * y ∧ x * y ≤ 4294836225 :=
  ⟨Int.mul_nonneg hx.1 hy.1, by have := Int.mul_le_mul (show x ≤ 65535 by omega) (show y ≤ 65535 by omega) hy.1 (by omega); omega⟩

theorem of_dig (n x0 x1 x2 x3 : Int) (h0 : 0 ≤ n) (h1 : n < 18446744073709551616) (h : Hid (n % 65536 = x0 ∧ n / 65536 % 65536 = x1 ∧ n / 4294967296 % 65536 = x2 ∧ n / 281474976710656 = x3)) (w : World) :
    Calls Tryz.prog 94 #[.int .u64 n] w fun e w' => e = .returned (.agg #[.int .u64 x0, .int .u64 x1, .int .u64 x2, .int .u64 x3]) ∧ w' = w.alloc (.cells #[.int .u64 x0, .int .u64 x1, .int .u64 x2, .int .u64 x3] 123) := by
  obtain ⟨rfl, rfl, rfl, rfl⟩ := h.out
  exact of_any n h0 h1 w

theorem digits (n : Int) (h0 : 0 ≤ n) (h1 : n < 18446744073709551616) : ∃ x0 x1 x2 x3 : Int, Hid (n % 65536 = x0 ∧ n / 65536 % 65536 = x1 ∧ n / 4294967296 % 65536 = x2 ∧ n / 281474976710656 = x3) ∧
    (0 ≤ x0 ∧ x0 < 65536) ∧ (0 ≤ x1 ∧ x1 < 65536) ∧ (0 ≤ x2 ∧ x2 < 65536) ∧ (0 ≤ x3 ∧ x3 < 65536) ∧ Hid (n = x0 + x1 * 65536 + x2 * 4294967296 + x3 * 281474976710656) :=
  ⟨_, _, _, _, Lib.hid ⟨rfl, rfl, rfl, rfl⟩, by omega, by omega, by omega, by omega, Lib.hid (by omega)⟩

/-- The world of Times: the digits of both, and 'd'. -/
def wT (w : World) (x0 x1 x2 x3 y0 y1 y2 y3 d0 d1 d2 d3 d4 d5 d6 d7 : Int) : World :=
  ((((w.alloc (.cells #[.int .u64 x0, .int .u64 x1, .int .u64 x2, .int .u64 x3] 123)).alloc (.cells #[.int .u64 x0, .int .u64 x1, .int .u64 x2, .int .u64 x3] 123)).alloc (.cells #[.int .u64 y0, .int .u64 y1, .int .u64 y2, .int .u64 y3] 123)).alloc (.cells #[.int .u64 y0, .int .u64 y1, .int .u64 y2, .int .u64 y3] 123)).alloc (.cells #[.int .u64 d0, .int .u64 d1, .int .u64 d2, .int .u64 d3, .int .u64 d4, .int .u64 d5, .int .u64 d6, .int .u64 d7, .int .u64 0] 125)

def TimesPost (a b : Int) (w : World) (e : Ending) (w' : World) : Prop := e = .returned (.tuple #[.int .u64 (a * b % 18446744073709551616), .int .u64 (a * b / 18446744073709551616)]) ∧ Below w.heap.size w w'

set_option maxHeartbeats 2000000 in
theorem prod_end (a b x0 x1 x2 x3 y0 y1 y2 y3 d0 d1 d2 d3 d4 d5 d6 d7 : Int) (HA : Hid (a = x0 + x1 * 65536 + x2 * 4294967296 + x3 * 281474976710656)) (HB : Hid (b = y0 + y1 * 65536 + y2 * 4294967296 + y3 * 281474976710656))
    (HV : Hid (val8 d0 d1 d2 d3 d4 d5 d6 d7 = sumTo x0 x1 x2 x3 y0 y1 y2 y3 16)) (r0 : 0 ≤ d0 ∧ d0 < 65536) (r1 : 0 ≤ d1 ∧ d1 < 65536) (r2 : 0 ≤ d2 ∧ d2 < 65536) (r3 : 0 ≤ d3 ∧ d3 < 65536) :
    d0 + d1 * 65536 + d2 * 4294967296 + d3 * 281474976710656 = a * b % 18446744073709551616 ∧ d4 + d5 * 65536 + d6 * 4294967296 + d7 * 281474976710656 = a * b / 18446744073709551616 := by
  have h : a * b = val8 d0 d1 d2 d3 d4 d5 d6 d7 := by
    rw [HV.out, HA.out, HB.out]
    show _ = x0 * y0 * 1 + x0 * y1 * 65536 + x0 * y2 * 4294967296 + x0 * y3 * 281474976710656 + x1 * y0 * 65536 + x1 * y1 * 4294967296 + x1 * y2 * 281474976710656 + x1 * y3 * 18446744073709551616 + x2 * y0 * 4294967296 + x2 * y1 * 281474976710656 + x2 * y2 * 18446744073709551616 + x2 * y3 * 1208925819614629174706176 + x3 * y0 * 281474976710656 + x3 * y1 * 18446744073709551616 + x3 * y2 * 1208925819614629174706176 + x3 * y3 * 79228162514264337593543950336
    clear HV HA HB r0 r1 r2 r3
    grind
  clear HV HA HB
  rw [h]
  unfold val8
  omega

theorem hv00 (x0 x1 x2 x3 y0 y1 y2 y3 d0 d1 d2 d3 d4 d5 d6 d7 ov : Int) (HV : Hid (val8 d0 d1 d2 d3 d4 d5 d6 d7 + ov * [1, 65536, 4294967296, 281474976710656, 18446744073709551616].getD 0 0 = sumTo x0 x1 x2 x3 y0 y1 y2 y3 (0 + 0))) :
    Hid (val8 ((d0 + x0 * y0 + ov) % 65536) d1 d2 d3 d4 d5 d6 d7 + (d0 + x0 * y0 + ov) / 65536 * [1, 65536, 4294967296, 281474976710656, 18446744073709551616].getD 1 0 = sumTo x0 x1 x2 x3 y0 y1 y2 y3 (0 + 1)) := by
  have h : val8 d0 d1 d2 d3 d4 d5 d6 d7 + ov * 1 = 0 := HV.out
  refine Lib.hid ?_
  show val8 ((d0 + x0 * y0 + ov) % 65536) d1 d2 d3 d4 d5 d6 d7 + (d0 + x0 * y0 + ov) / 65536 * 65536 = x0 * y0 * 1
  unfold val8 at h ⊢
  clear HV
  omega

theorem hv01 (x0 x1 x2 x3 y0 y1 y2 y3 d0 d1 d2 d3 d4 d5 d6 d7 ov : Int) (HV : Hid (val8 d0 d1 d2 d3 d4 d5 d6 d7 + ov * [1, 65536, 4294967296, 281474976710656, 18446744073709551616].getD 1 0 = sumTo x0 x1 x2 x3 y0 y1 y2 y3 (0 + 1))) :
    Hid (val8 d0 ((d1 + x0 * y1 + ov) % 65536) d2 d3 d4 d5 d6 d7 + (d1 + x0 * y1 + ov) / 65536 * [1, 65536, 4294967296, 281474976710656, 18446744073709551616].getD 2 0 = sumTo x0 x1 x2 x3 y0 y1 y2 y3 (0 + 2)) := by
  have h : val8 d0 d1 d2 d3 d4 d5 d6 d7 + ov * 65536 = x0 * y0 * 1 := HV.out
  refine Lib.hid ?_
  show val8 d0 ((d1 + x0 * y1 + ov) % 65536) d2 d3 d4 d5 d6 d7 + (d1 + x0 * y1 + ov) / 65536 * 4294967296 = x0 * y0 * 1 + x0 * y1 * 65536
  unfold val8 at h ⊢
  clear HV
  omega

theorem hv02 (x0 x1 x2 x3 y0 y1 y2 y3 d0 d1 d2 d3 d4 d5 d6 d7 ov : Int) (HV : Hid (val8 d0 d1 d2 d3 d4 d5 d6 d7 + ov * [1, 65536, 4294967296, 281474976710656, 18446744073709551616].getD 2 0 = sumTo x0 x1 x2 x3 y0 y1 y2 y3 (0 + 2))) :
    Hid (val8 d0 d1 ((d2 + x0 * y2 + ov) % 65536) d3 d4 d5 d6 d7 + (d2 + x0 * y2 + ov) / 65536 * [1, 65536, 4294967296, 281474976710656, 18446744073709551616].getD 3 0 = sumTo x0 x1 x2 x3 y0 y1 y2 y3 (0 + 3)) := by
  have h : val8 d0 d1 d2 d3 d4 d5 d6 d7 + ov * 4294967296 = x0 * y0 * 1 + x0 * y1 * 65536 := HV.out
  refine Lib.hid ?_
  show val8 d0 d1 ((d2 + x0 * y2 + ov) % 65536) d3 d4 d5 d6 d7 + (d2 + x0 * y2 + ov) / 65536 * 281474976710656 = x0 * y0 * 1 + x0 * y1 * 65536 + x0 * y2 * 4294967296
  unfold val8 at h ⊢
  clear HV
  omega

theorem hv03 (x0 x1 x2 x3 y0 y1 y2 y3 d0 d1 d2 d3 d4 d5 d6 d7 ov : Int) (HV : Hid (val8 d0 d1 d2 d3 d4 d5 d6 d7 + ov * [1, 65536, 4294967296, 281474976710656, 18446744073709551616].getD 3 0 = sumTo x0 x1 x2 x3 y0 y1 y2 y3 (0 + 3))) :
    Hid (val8 d0 d1 d2 ((d3 + x0 * y3 + ov) % 65536) d4 d5 d6 d7 + (d3 + x0 * y3 + ov) / 65536 * [1, 65536, 4294967296, 281474976710656, 18446744073709551616].getD 4 0 = sumTo x0 x1 x2 x3 y0 y1 y2 y3 (0 + 4)) := by
  have h : val8 d0 d1 d2 d3 d4 d5 d6 d7 + ov * 281474976710656 = x0 * y0 * 1 + x0 * y1 * 65536 + x0 * y2 * 4294967296 := HV.out
  refine Lib.hid ?_
  show val8 d0 d1 d2 ((d3 + x0 * y3 + ov) % 65536) d4 d5 d6 d7 + (d3 + x0 * y3 + ov) / 65536 * 18446744073709551616 = x0 * y0 * 1 + x0 * y1 * 65536 + x0 * y2 * 4294967296 + x0 * y3 * 281474976710656
  unfold val8 at h ⊢
  clear HV
  omega

theorem hv04 (x0 x1 x2 x3 y0 y1 y2 y3 d0 d1 d2 d3 d4 d5 d6 d7 ov : Int) (HV : Hid (val8 d0 d1 d2 d3 d4 d5 d6 d7 + ov * [1, 65536, 4294967296, 281474976710656, 18446744073709551616].getD 4 0 = sumTo x0 x1 x2 x3 y0 y1 y2 y3 (0 + 4))) :
    Hid (val8 d0 d1 d2 d3 (d4 + ov) d5 d6 d7 = sumTo x0 x1 x2 x3 y0 y1 y2 y3 (4 * 1)) := by
  have h : val8 d0 d1 d2 d3 d4 d5 d6 d7 + ov * 18446744073709551616 = x0 * y0 * 1 + x0 * y1 * 65536 + x0 * y2 * 4294967296 + x0 * y3 * 281474976710656 := HV.out
  refine Lib.hid ?_
  show val8 d0 d1 d2 d3 (d4 + ov) d5 d6 d7 = x0 * y0 * 1 + x0 * y1 * 65536 + x0 * y2 * 4294967296 + x0 * y3 * 281474976710656
  unfold val8 at h ⊢
  clear HV
  omega

theorem hv10 (x0 x1 x2 x3 y0 y1 y2 y3 d0 d1 d2 d3 d4 d5 d6 d7 ov : Int) (HV : Hid (val8 d0 d1 d2 d3 d4 d5 d6 d7 + ov * [65536, 4294967296, 281474976710656, 18446744073709551616, 1208925819614629174706176].getD 0 0 = sumTo x0 x1 x2 x3 y0 y1 y2 y3 (4 + 0))) :
    Hid (val8 d0 ((d1 + x1 * y0 + ov) % 65536) d2 d3 d4 d5 d6 d7 + (d1 + x1 * y0 + ov) / 65536 * [65536, 4294967296, 281474976710656, 18446744073709551616, 1208925819614629174706176].getD 1 0 = sumTo x0 x1 x2 x3 y0 y1 y2 y3 (4 + 1)) := by
  have h : val8 d0 d1 d2 d3 d4 d5 d6 d7 + ov * 65536 = x0 * y0 * 1 + x0 * y1 * 65536 + x0 * y2 * 4294967296 + x0 * y3 * 281474976710656 := HV.out
  refine Lib.hid ?_
  show val8 d0 ((d1 + x1 * y0 + ov) % 65536) d2 d3 d4 d5 d6 d7 + (d1 + x1 * y0 + ov) / 65536 * 4294967296 = x0 * y0 * 1 + x0 * y1 * 65536 + x0 * y2 * 4294967296 + x0 * y3 * 281474976710656 + x1 * y0 * 65536
  unfold val8 at h ⊢
  clear HV
  omega

theorem hv11 (x0 x1 x2 x3 y0 y1 y2 y3 d0 d1 d2 d3 d4 d5 d6 d7 ov : Int) (HV : Hid (val8 d0 d1 d2 d3 d4 d5 d6 d7 + ov * [65536, 4294967296, 281474976710656, 18446744073709551616, 1208925819614629174706176].getD 1 0 = sumTo x0 x1 x2 x3 y0 y1 y2 y3 (4 + 1))) :
    Hid (val8 d0 d1 ((d2 + x1 * y1 + ov) % 65536) d3 d4 d5 d6 d7 + (d2 + x1 * y1 + ov) / 65536 * [65536, 4294967296, 281474976710656, 18446744073709551616, 1208925819614629174706176].getD 2 0 = sumTo x0 x1 x2 x3 y0 y1 y2 y3 (4 + 2)) := by
  have h : val8 d0 d1 d2 d3 d4 d5 d6 d7 + ov * 4294967296 = x0 * y0 * 1 + x0 * y1 * 65536 + x0 * y2 * 4294967296 + x0 * y3 * 281474976710656 + x1 * y0 * 65536 := HV.out
  refine Lib.hid ?_
  show val8 d0 d1 ((d2 + x1 * y1 + ov) % 65536) d3 d4 d5 d6 d7 + (d2 + x1 * y1 + ov) / 65536 * 281474976710656 = x0 * y0 * 1 + x0 * y1 * 65536 + x0 * y2 * 4294967296 + x0 * y3 * 281474976710656 + x1 * y0 * 65536 + x1 * y1 * 4294967296
  unfold val8 at h ⊢
  clear HV
  omega

theorem hv12 (x0 x1 x2 x3 y0 y1 y2 y3 d0 d1 d2 d3 d4 d5 d6 d7 ov : Int) (HV : Hid (val8 d0 d1 d2 d3 d4 d5 d6 d7 + ov * [65536, 4294967296, 281474976710656, 18446744073709551616, 1208925819614629174706176].getD 2 0 = sumTo x0 x1 x2 x3 y0 y1 y2 y3 (4 + 2))) :
    Hid (val8 d0 d1 d2 ((d3 + x1 * y2 + ov) % 65536) d4 d5 d6 d7 + (d3 + x1 * y2 + ov) / 65536 * [65536, 4294967296, 281474976710656, 18446744073709551616, 1208925819614629174706176].getD 3 0 = sumTo x0 x1 x2 x3 y0 y1 y2 y3 (4 + 3)) := by
  have h : val8 d0 d1 d2 d3 d4 d5 d6 d7 + ov * 281474976710656 = x0 * y0 * 1 + x0 * y1 * 65536 + x0 * y2 * 4294967296 + x0 * y3 * 281474976710656 + x1 * y0 * 65536 + x1 * y1 * 4294967296 := HV.out
  refine Lib.hid ?_
  show val8 d0 d1 d2 ((d3 + x1 * y2 + ov) % 65536) d4 d5 d6 d7 + (d3 + x1 * y2 + ov) / 65536 * 18446744073709551616 = x0 * y0 * 1 + x0 * y1 * 65536 + x0 * y2 * 4294967296 + x0 * y3 * 281474976710656 + x1 * y0 * 65536 + x1 * y1 * 4294967296 + x1 * y2 * 281474976710656
  unfold val8 at h ⊢
  clear HV
  omega

theorem hv13 (x0 x1 x2 x3 y0 y1 y2 y3 d0 d1 d2 d3 d4 d5 d6 d7 ov : Int) (HV : Hid (val8 d0 d1 d2 d3 d4 d5 d6 d7 + ov * [65536, 4294967296, 281474976710656, 18446744073709551616, 1208925819614629174706176].getD 3 0 = sumTo x0 x1 x2 x3 y0 y1 y2 y3 (4 + 3))) :
    Hid (val8 d0 d1 d2 d3 ((d4 + x1 * y3 + ov) % 65536) d5 d6 d7 + (d4 + x1 * y3 + ov) / 65536 * [65536, 4294967296, 281474976710656, 18446744073709551616, 1208925819614629174706176].getD 4 0 = sumTo x0 x1 x2 x3 y0 y1 y2 y3 (4 + 4)) := by
  have h : val8 d0 d1 d2 d3 d4 d5 d6 d7 + ov * 18446744073709551616 = x0 * y0 * 1 + x0 * y1 * 65536 + x0 * y2 * 4294967296 + x0 * y3 * 281474976710656 + x1 * y0 * 65536 + x1 * y1 * 4294967296 + x1 * y2 * 281474976710656 := HV.out
  refine Lib.hid ?_
  show val8 d0 d1 d2 d3 ((d4 + x1 * y3 + ov) % 65536) d5 d6 d7 + (d4 + x1 * y3 + ov) / 65536 * 1208925819614629174706176 = x0 * y0 * 1 + x0 * y1 * 65536 + x0 * y2 * 4294967296 + x0 * y3 * 281474976710656 + x1 * y0 * 65536 + x1 * y1 * 4294967296 + x1 * y2 * 281474976710656 + x1 * y3 * 18446744073709551616
  unfold val8 at h ⊢
  clear HV
  omega

theorem hv14 (x0 x1 x2 x3 y0 y1 y2 y3 d0 d1 d2 d3 d4 d5 d6 d7 ov : Int) (HV : Hid (val8 d0 d1 d2 d3 d4 d5 d6 d7 + ov * [65536, 4294967296, 281474976710656, 18446744073709551616, 1208925819614629174706176].getD 4 0 = sumTo x0 x1 x2 x3 y0 y1 y2 y3 (4 + 4))) :
    Hid (val8 d0 d1 d2 d3 d4 (d5 + ov) d6 d7 = sumTo x0 x1 x2 x3 y0 y1 y2 y3 (4 * 2)) := by
  have h : val8 d0 d1 d2 d3 d4 d5 d6 d7 + ov * 1208925819614629174706176 = x0 * y0 * 1 + x0 * y1 * 65536 + x0 * y2 * 4294967296 + x0 * y3 * 281474976710656 + x1 * y0 * 65536 + x1 * y1 * 4294967296 + x1 * y2 * 281474976710656 + x1 * y3 * 18446744073709551616 := HV.out
  refine Lib.hid ?_
  show val8 d0 d1 d2 d3 d4 (d5 + ov) d6 d7 = x0 * y0 * 1 + x0 * y1 * 65536 + x0 * y2 * 4294967296 + x0 * y3 * 281474976710656 + x1 * y0 * 65536 + x1 * y1 * 4294967296 + x1 * y2 * 281474976710656 + x1 * y3 * 18446744073709551616
  unfold val8 at h ⊢
  clear HV
  omega

theorem hv20 (x0 x1 x2 x3 y0 y1 y2 y3 d0 d1 d2 d3 d4 d5 d6 d7 ov : Int) (HV : Hid (val8 d0 d1 d2 d3 d4 d5 d6 d7 + ov * [4294967296, 281474976710656, 18446744073709551616, 1208925819614629174706176, 79228162514264337593543950336].getD 0 0 = sumTo x0 x1 x2 x3 y0 y1 y2 y3 (8 + 0))) :
    Hid (val8 d0 d1 ((d2 + x2 * y0 + ov) % 65536) d3 d4 d5 d6 d7 + (d2 + x2 * y0 + ov) / 65536 * [4294967296, 281474976710656, 18446744073709551616, 1208925819614629174706176, 79228162514264337593543950336].getD 1 0 = sumTo x0 x1 x2 x3 y0 y1 y2 y3 (8 + 1)) := by
  have h : val8 d0 d1 d2 d3 d4 d5 d6 d7 + ov * 4294967296 = x0 * y0 * 1 + x0 * y1 * 65536 + x0 * y2 * 4294967296 + x0 * y3 * 281474976710656 + x1 * y0 * 65536 + x1 * y1 * 4294967296 + x1 * y2 * 281474976710656 + x1 * y3 * 18446744073709551616 := HV.out
  refine Lib.hid ?_
  show val8 d0 d1 ((d2 + x2 * y0 + ov) % 65536) d3 d4 d5 d6 d7 + (d2 + x2 * y0 + ov) / 65536 * 281474976710656 = x0 * y0 * 1 + x0 * y1 * 65536 + x0 * y2 * 4294967296 + x0 * y3 * 281474976710656 + x1 * y0 * 65536 + x1 * y1 * 4294967296 + x1 * y2 * 281474976710656 + x1 * y3 * 18446744073709551616 + x2 * y0 * 4294967296
  unfold val8 at h ⊢
  clear HV
  omega

theorem hv21 (x0 x1 x2 x3 y0 y1 y2 y3 d0 d1 d2 d3 d4 d5 d6 d7 ov : Int) (HV : Hid (val8 d0 d1 d2 d3 d4 d5 d6 d7 + ov * [4294967296, 281474976710656, 18446744073709551616, 1208925819614629174706176, 79228162514264337593543950336].getD 1 0 = sumTo x0 x1 x2 x3 y0 y1 y2 y3 (8 + 1))) :
    Hid (val8 d0 d1 d2 ((d3 + x2 * y1 + ov) % 65536) d4 d5 d6 d7 + (d3 + x2 * y1 + ov) / 65536 * [4294967296, 281474976710656, 18446744073709551616, 1208925819614629174706176, 79228162514264337593543950336].getD 2 0 = sumTo x0 x1 x2 x3 y0 y1 y2 y3 (8 + 2)) := by
  have h : val8 d0 d1 d2 d3 d4 d5 d6 d7 + ov * 281474976710656 = x0 * y0 * 1 + x0 * y1 * 65536 + x0 * y2 * 4294967296 + x0 * y3 * 281474976710656 + x1 * y0 * 65536 + x1 * y1 * 4294967296 + x1 * y2 * 281474976710656 + x1 * y3 * 18446744073709551616 + x2 * y0 * 4294967296 := HV.out
  refine Lib.hid ?_
  show val8 d0 d1 d2 ((d3 + x2 * y1 + ov) % 65536) d4 d5 d6 d7 + (d3 + x2 * y1 + ov) / 65536 * 18446744073709551616 = x0 * y0 * 1 + x0 * y1 * 65536 + x0 * y2 * 4294967296 + x0 * y3 * 281474976710656 + x1 * y0 * 65536 + x1 * y1 * 4294967296 + x1 * y2 * 281474976710656 + x1 * y3 * 18446744073709551616 + x2 * y0 * 4294967296 + x2 * y1 * 281474976710656
  unfold val8 at h ⊢
  clear HV
  omega

theorem hv22 (x0 x1 x2 x3 y0 y1 y2 y3 d0 d1 d2 d3 d4 d5 d6 d7 ov : Int) (HV : Hid (val8 d0 d1 d2 d3 d4 d5 d6 d7 + ov * [4294967296, 281474976710656, 18446744073709551616, 1208925819614629174706176, 79228162514264337593543950336].getD 2 0 = sumTo x0 x1 x2 x3 y0 y1 y2 y3 (8 + 2))) :
    Hid (val8 d0 d1 d2 d3 ((d4 + x2 * y2 + ov) % 65536) d5 d6 d7 + (d4 + x2 * y2 + ov) / 65536 * [4294967296, 281474976710656, 18446744073709551616, 1208925819614629174706176, 79228162514264337593543950336].getD 3 0 = sumTo x0 x1 x2 x3 y0 y1 y2 y3 (8 + 3)) := by
  have h : val8 d0 d1 d2 d3 d4 d5 d6 d7 + ov * 18446744073709551616 = x0 * y0 * 1 + x0 * y1 * 65536 + x0 * y2 * 4294967296 + x0 * y3 * 281474976710656 + x1 * y0 * 65536 + x1 * y1 * 4294967296 + x1 * y2 * 281474976710656 + x1 * y3 * 18446744073709551616 + x2 * y0 * 4294967296 + x2 * y1 * 281474976710656 := HV.out
  refine Lib.hid ?_
  show val8 d0 d1 d2 d3 ((d4 + x2 * y2 + ov) % 65536) d5 d6 d7 + (d4 + x2 * y2 + ov) / 65536 * 1208925819614629174706176 = x0 * y0 * 1 + x0 * y1 * 65536 + x0 * y2 * 4294967296 + x0 * y3 * 281474976710656 + x1 * y0 * 65536 + x1 * y1 * 4294967296 + x1 * y2 * 281474976710656 + x1 * y3 * 18446744073709551616 + x2 * y0 * 4294967296 + x2 * y1 * 281474976710656 + x2 * y2 * 18446744073709551616
  unfold val8 at h ⊢
  clear HV
  omega

theorem hv23 (x0 x1 x2 x3 y0 y1 y2 y3 d0 d1 d2 d3 d4 d5 d6 d7 ov : Int) (HV : Hid (val8 d0 d1 d2 d3 d4 d5 d6 d7 + ov * [4294967296, 281474976710656, 18446744073709551616, 1208925819614629174706176, 79228162514264337593543950336].getD 3 0 = sumTo x0 x1 x2 x3 y0 y1 y2 y3 (8 + 3))) :
    Hid (val8 d0 d1 d2 d3 d4 ((d5 + x2 * y3 + ov) % 65536) d6 d7 + (d5 + x2 * y3 + ov) / 65536 * [4294967296, 281474976710656, 18446744073709551616, 1208925819614629174706176, 79228162514264337593543950336].getD 4 0 = sumTo x0 x1 x2 x3 y0 y1 y2 y3 (8 + 4)) := by
  have h : val8 d0 d1 d2 d3 d4 d5 d6 d7 + ov * 1208925819614629174706176 = x0 * y0 * 1 + x0 * y1 * 65536 + x0 * y2 * 4294967296 + x0 * y3 * 281474976710656 + x1 * y0 * 65536 + x1 * y1 * 4294967296 + x1 * y2 * 281474976710656 + x1 * y3 * 18446744073709551616 + x2 * y0 * 4294967296 + x2 * y1 * 281474976710656 + x2 * y2 * 18446744073709551616 := HV.out
  refine Lib.hid ?_
  show val8 d0 d1 d2 d3 d4 ((d5 + x2 * y3 + ov) % 65536) d6 d7 + (d5 + x2 * y3 + ov) / 65536 * 79228162514264337593543950336 = x0 * y0 * 1 + x0 * y1 * 65536 + x0 * y2 * 4294967296 + x0 * y3 * 281474976710656 + x1 * y0 * 65536 + x1 * y1 * 4294967296 + x1 * y2 * 281474976710656 + x1 * y3 * 18446744073709551616 + x2 * y0 * 4294967296 + x2 * y1 * 281474976710656 + x2 * y2 * 18446744073709551616 + x2 * y3 * 1208925819614629174706176
  unfold val8 at h ⊢
  clear HV
  omega

theorem hv24 (x0 x1 x2 x3 y0 y1 y2 y3 d0 d1 d2 d3 d4 d5 d6 d7 ov : Int) (HV : Hid (val8 d0 d1 d2 d3 d4 d5 d6 d7 + ov * [4294967296, 281474976710656, 18446744073709551616, 1208925819614629174706176, 79228162514264337593543950336].getD 4 0 = sumTo x0 x1 x2 x3 y0 y1 y2 y3 (8 + 4))) :
    Hid (val8 d0 d1 d2 d3 d4 d5 (d6 + ov) d7 = sumTo x0 x1 x2 x3 y0 y1 y2 y3 (4 * 3)) := by
  have h : val8 d0 d1 d2 d3 d4 d5 d6 d7 + ov * 79228162514264337593543950336 = x0 * y0 * 1 + x0 * y1 * 65536 + x0 * y2 * 4294967296 + x0 * y3 * 281474976710656 + x1 * y0 * 65536 + x1 * y1 * 4294967296 + x1 * y2 * 281474976710656 + x1 * y3 * 18446744073709551616 + x2 * y0 * 4294967296 + x2 * y1 * 281474976710656 + x2 * y2 * 18446744073709551616 + x2 * y3 * 1208925819614629174706176 := HV.out
  refine Lib.hid ?_
  show val8 d0 d1 d2 d3 d4 d5 (d6 + ov) d7 = x0 * y0 * 1 + x0 * y1 * 65536 + x0 * y2 * 4294967296 + x0 * y3 * 281474976710656 + x1 * y0 * 65536 + x1 * y1 * 4294967296 + x1 * y2 * 281474976710656 + x1 * y3 * 18446744073709551616 + x2 * y0 * 4294967296 + x2 * y1 * 281474976710656 + x2 * y2 * 18446744073709551616 + x2 * y3 * 1208925819614629174706176
  unfold val8 at h ⊢
  clear HV
  omega

theorem hv30 (x0 x1 x2 x3 y0 y1 y2 y3 d0 d1 d2 d3 d4 d5 d6 d7 ov : Int) (HV : Hid (val8 d0 d1 d2 d3 d4 d5 d6 d7 + ov * [281474976710656, 18446744073709551616, 1208925819614629174706176, 79228162514264337593543950336, 5192296858534827628530496329220096].getD 0 0 = sumTo x0 x1 x2 x3 y0 y1 y2 y3 (12 + 0))) :
    Hid (val8 d0 d1 d2 ((d3 + x3 * y0 + ov) % 65536) d4 d5 d6 d7 + (d3 + x3 * y0 + ov) / 65536 * [281474976710656, 18446744073709551616, 1208925819614629174706176, 79228162514264337593543950336, 5192296858534827628530496329220096].getD 1 0 = sumTo x0 x1 x2 x3 y0 y1 y2 y3 (12 + 1)) := by
  have h : val8 d0 d1 d2 d3 d4 d5 d6 d7 + ov * 281474976710656 = x0 * y0 * 1 + x0 * y1 * 65536 + x0 * y2 * 4294967296 + x0 * y3 * 281474976710656 + x1 * y0 * 65536 + x1 * y1 * 4294967296 + x1 * y2 * 281474976710656 + x1 * y3 * 18446744073709551616 + x2 * y0 * 4294967296 + x2 * y1 * 281474976710656 + x2 * y2 * 18446744073709551616 + x2 * y3 * 1208925819614629174706176 := HV.out
  refine Lib.hid ?_
  show val8 d0 d1 d2 ((d3 + x3 * y0 + ov) % 65536) d4 d5 d6 d7 + (d3 + x3 * y0 + ov) / 65536 * 18446744073709551616 = x0 * y0 * 1 + x0 * y1 * 65536 + x0 * y2 * 4294967296 + x0 * y3 * 281474976710656 + x1 * y0 * 65536 + x1 * y1 * 4294967296 + x1 * y2 * 281474976710656 + x1 * y3 * 18446744073709551616 + x2 * y0 * 4294967296 + x2 * y1 * 281474976710656 + x2 * y2 * 18446744073709551616 + x2 * y3 * 1208925819614629174706176 + x3 * y0 * 281474976710656
  unfold val8 at h ⊢
  clear HV
  omega

theorem hv31 (x0 x1 x2 x3 y0 y1 y2 y3 d0 d1 d2 d3 d4 d5 d6 d7 ov : Int) (HV : Hid (val8 d0 d1 d2 d3 d4 d5 d6 d7 + ov * [281474976710656, 18446744073709551616, 1208925819614629174706176, 79228162514264337593543950336, 5192296858534827628530496329220096].getD 1 0 = sumTo x0 x1 x2 x3 y0 y1 y2 y3 (12 + 1))) :
    Hid (val8 d0 d1 d2 d3 ((d4 + x3 * y1 + ov) % 65536) d5 d6 d7 + (d4 + x3 * y1 + ov) / 65536 * [281474976710656, 18446744073709551616, 1208925819614629174706176, 79228162514264337593543950336, 5192296858534827628530496329220096].getD 2 0 = sumTo x0 x1 x2 x3 y0 y1 y2 y3 (12 + 2)) := by
  have h : val8 d0 d1 d2 d3 d4 d5 d6 d7 + ov * 18446744073709551616 = x0 * y0 * 1 + x0 * y1 * 65536 + x0 * y2 * 4294967296 + x0 * y3 * 281474976710656 + x1 * y0 * 65536 + x1 * y1 * 4294967296 + x1 * y2 * 281474976710656 + x1 * y3 * 18446744073709551616 + x2 * y0 * 4294967296 + x2 * y1 * 281474976710656 + x2 * y2 * 18446744073709551616 + x2 * y3 * 1208925819614629174706176 + x3 * y0 * 281474976710656 := HV.out
  refine Lib.hid ?_
  show val8 d0 d1 d2 d3 ((d4 + x3 * y1 + ov) % 65536) d5 d6 d7 + (d4 + x3 * y1 + ov) / 65536 * 1208925819614629174706176 = x0 * y0 * 1 + x0 * y1 * 65536 + x0 * y2 * 4294967296 + x0 * y3 * 281474976710656 + x1 * y0 * 65536 + x1 * y1 * 4294967296 + x1 * y2 * 281474976710656 + x1 * y3 * 18446744073709551616 + x2 * y0 * 4294967296 + x2 * y1 * 281474976710656 + x2 * y2 * 18446744073709551616 + x2 * y3 * 1208925819614629174706176 + x3 * y0 * 281474976710656 + x3 * y1 * 18446744073709551616
  unfold val8 at h ⊢
  clear HV
  omega

theorem hv32 (x0 x1 x2 x3 y0 y1 y2 y3 d0 d1 d2 d3 d4 d5 d6 d7 ov : Int) (HV : Hid (val8 d0 d1 d2 d3 d4 d5 d6 d7 + ov * [281474976710656, 18446744073709551616, 1208925819614629174706176, 79228162514264337593543950336, 5192296858534827628530496329220096].getD 2 0 = sumTo x0 x1 x2 x3 y0 y1 y2 y3 (12 + 2))) :
    Hid (val8 d0 d1 d2 d3 d4 ((d5 + x3 * y2 + ov) % 65536) d6 d7 + (d5 + x3 * y2 + ov) / 65536 * [281474976710656, 18446744073709551616, 1208925819614629174706176, 79228162514264337593543950336, 5192296858534827628530496329220096].getD 3 0 = sumTo x0 x1 x2 x3 y0 y1 y2 y3 (12 + 3)) := by
  have h : val8 d0 d1 d2 d3 d4 d5 d6 d7 + ov * 1208925819614629174706176 = x0 * y0 * 1 + x0 * y1 * 65536 + x0 * y2 * 4294967296 + x0 * y3 * 281474976710656 + x1 * y0 * 65536 + x1 * y1 * 4294967296 + x1 * y2 * 281474976710656 + x1 * y3 * 18446744073709551616 + x2 * y0 * 4294967296 + x2 * y1 * 281474976710656 + x2 * y2 * 18446744073709551616 + x2 * y3 * 1208925819614629174706176 + x3 * y0 * 281474976710656 + x3 * y1 * 18446744073709551616 := HV.out
  refine Lib.hid ?_
  show val8 d0 d1 d2 d3 d4 ((d5 + x3 * y2 + ov) % 65536) d6 d7 + (d5 + x3 * y2 + ov) / 65536 * 79228162514264337593543950336 = x0 * y0 * 1 + x0 * y1 * 65536 + x0 * y2 * 4294967296 + x0 * y3 * 281474976710656 + x1 * y0 * 65536 + x1 * y1 * 4294967296 + x1 * y2 * 281474976710656 + x1 * y3 * 18446744073709551616 + x2 * y0 * 4294967296 + x2 * y1 * 281474976710656 + x2 * y2 * 18446744073709551616 + x2 * y3 * 1208925819614629174706176 + x3 * y0 * 281474976710656 + x3 * y1 * 18446744073709551616 + x3 * y2 * 1208925819614629174706176
  unfold val8 at h ⊢
  clear HV
  omega

theorem hv33 (x0 x1 x2 x3 y0 y1 y2 y3 d0 d1 d2 d3 d4 d5 d6 d7 ov : Int) (HV : Hid (val8 d0 d1 d2 d3 d4 d5 d6 d7 + ov * [281474976710656, 18446744073709551616, 1208925819614629174706176, 79228162514264337593543950336, 5192296858534827628530496329220096].getD 3 0 = sumTo x0 x1 x2 x3 y0 y1 y2 y3 (12 + 3))) :
    Hid (val8 d0 d1 d2 d3 d4 d5 ((d6 + x3 * y3 + ov) % 65536) d7 + (d6 + x3 * y3 + ov) / 65536 * [281474976710656, 18446744073709551616, 1208925819614629174706176, 79228162514264337593543950336, 5192296858534827628530496329220096].getD 4 0 = sumTo x0 x1 x2 x3 y0 y1 y2 y3 (12 + 4)) := by
  have h : val8 d0 d1 d2 d3 d4 d5 d6 d7 + ov * 79228162514264337593543950336 = x0 * y0 * 1 + x0 * y1 * 65536 + x0 * y2 * 4294967296 + x0 * y3 * 281474976710656 + x1 * y0 * 65536 + x1 * y1 * 4294967296 + x1 * y2 * 281474976710656 + x1 * y3 * 18446744073709551616 + x2 * y0 * 4294967296 + x2 * y1 * 281474976710656 + x2 * y2 * 18446744073709551616 + x2 * y3 * 1208925819614629174706176 + x3 * y0 * 281474976710656 + x3 * y1 * 18446744073709551616 + x3 * y2 * 1208925819614629174706176 := HV.out
  refine Lib.hid ?_
  show val8 d0 d1 d2 d3 d4 d5 ((d6 + x3 * y3 + ov) % 65536) d7 + (d6 + x3 * y3 + ov) / 65536 * 5192296858534827628530496329220096 = x0 * y0 * 1 + x0 * y1 * 65536 + x0 * y2 * 4294967296 + x0 * y3 * 281474976710656 + x1 * y0 * 65536 + x1 * y1 * 4294967296 + x1 * y2 * 281474976710656 + x1 * y3 * 18446744073709551616 + x2 * y0 * 4294967296 + x2 * y1 * 281474976710656 + x2 * y2 * 18446744073709551616 + x2 * y3 * 1208925819614629174706176 + x3 * y0 * 281474976710656 + x3 * y1 * 18446744073709551616 + x3 * y2 * 1208925819614629174706176 + x3 * y3 * 79228162514264337593543950336
  unfold val8 at h ⊢
  clear HV
  omega

theorem hv34 (x0 x1 x2 x3 y0 y1 y2 y3 d0 d1 d2 d3 d4 d5 d6 d7 ov : Int) (HV : Hid (val8 d0 d1 d2 d3 d4 d5 d6 d7 + ov * [281474976710656, 18446744073709551616, 1208925819614629174706176, 79228162514264337593543950336, 5192296858534827628530496329220096].getD 4 0 = sumTo x0 x1 x2 x3 y0 y1 y2 y3 (12 + 4))) :
    Hid (val8 d0 d1 d2 d3 d4 d5 d6 (d7 + ov) = sumTo x0 x1 x2 x3 y0 y1 y2 y3 (4 * 4)) := by
  have h : val8 d0 d1 d2 d3 d4 d5 d6 d7 + ov * 5192296858534827628530496329220096 = x0 * y0 * 1 + x0 * y1 * 65536 + x0 * y2 * 4294967296 + x0 * y3 * 281474976710656 + x1 * y0 * 65536 + x1 * y1 * 4294967296 + x1 * y2 * 281474976710656 + x1 * y3 * 18446744073709551616 + x2 * y0 * 4294967296 + x2 * y1 * 281474976710656 + x2 * y2 * 18446744073709551616 + x2 * y3 * 1208925819614629174706176 + x3 * y0 * 281474976710656 + x3 * y1 * 18446744073709551616 + x3 * y2 * 1208925819614629174706176 + x3 * y3 * 79228162514264337593543950336 := HV.out
  refine Lib.hid ?_
  show val8 d0 d1 d2 d3 d4 d5 d6 (d7 + ov) = x0 * y0 * 1 + x0 * y1 * 65536 + x0 * y2 * 4294967296 + x0 * y3 * 281474976710656 + x1 * y0 * 65536 + x1 * y1 * 4294967296 + x1 * y2 * 281474976710656 + x1 * y3 * 18446744073709551616 + x2 * y0 * 4294967296 + x2 * y1 * 281474976710656 + x2 * y2 * 18446744073709551616 + x2 * y3 * 1208925819614629174706176 + x3 * y0 * 281474976710656 + x3 * y1 * 18446744073709551616 + x3 * y2 * 1208925819614629174706176 + x3 * y3 * 79228162514264337593543950336
  unfold val8 at h ⊢
  clear HV
  omega

theorem below_alloc {w W : World} (h : Below w.heap.size w W) (o : Obj) : Below w.heap.size w (W.alloc o) := h.alloc h.size o
theorem keep_drew {W : World} {a : Addr} {v : Value} (h : W.cell? a = some v) : W.drew.cell? a = some v := h
theorem keep_alloc {W : World} {a : Addr} {v : Value} (o : Obj) (h : W.cell? a = some v) : (W.alloc o).cell? a = some v := (World.cell?_alloc_some W a o (by rw [h]; rfl)).trans h
theorem keep_alloc_drew {W : World} {a : Addr} {v : Value} (o : Obj) (h : W.cell? a = some v) : (W.alloc o).drew.cell? a = some v := keep_drew (keep_alloc o h)
theorem cell_new (w : World) (cs : Array Value) (t : TypeId) (n j m : Nat) (v : Value) (hn : n = w.heap.size) (h : cs[j]? = some v) : ((w.alloc (.cells cs t)).drewN m).cell? ⟨n, j, none⟩ = some v := by
  rw [show ((w.alloc (.cells cs t)).drewN m).cell? ⟨n, j, none⟩ = (w.alloc (.cells cs t)).cell? ⟨n, j, none⟩ from rfl, World.cell?_alloc_at _ _ _ _ hn, h]

set_option maxHeartbeats 8000000 in
theorem times_any (a b : Int) (ha : 0 ≤ a ∧ a < 18446744073709551616) (hb : 0 ≤ b ∧ b < 18446744073709551616) (w : World) :
    Calls Tryz.prog 80 #[.int .u64 a, .int .u64 b] w (TimesPost a b w) := by
  obtain ⟨x0, x1, x2, x3, HX, rx0, rx1, rx2, rx3, HA⟩ := digits a ha.1 ha.2
  obtain ⟨y0, y1, y2, y3, HY, ry0, ry1, ry2, ry3, HB⟩ := digits b hb.1 hb.2
  have p00 : 0 ≤ x0 * y0 ∧ x0 * y0 ≤ 4294836225 := prod_range _ _ rx0 ry0
  have p01 : 0 ≤ x0 * y1 ∧ x0 * y1 ≤ 4294836225 := prod_range _ _ rx0 ry1
  have p02 : 0 ≤ x0 * y2 ∧ x0 * y2 ≤ 4294836225 := prod_range _ _ rx0 ry2
  have p03 : 0 ≤ x0 * y3 ∧ x0 * y3 ≤ 4294836225 := prod_range _ _ rx0 ry3
  have p10 : 0 ≤ x1 * y0 ∧ x1 * y0 ≤ 4294836225 := prod_range _ _ rx1 ry0
  have p11 : 0 ≤ x1 * y1 ∧ x1 * y1 ≤ 4294836225 := prod_range _ _ rx1 ry1
  have p12 : 0 ≤ x1 * y2 ∧ x1 * y2 ≤ 4294836225 := prod_range _ _ rx1 ry2
  have p13 : 0 ≤ x1 * y3 ∧ x1 * y3 ≤ 4294836225 := prod_range _ _ rx1 ry3
  have p20 : 0 ≤ x2 * y0 ∧ x2 * y0 ≤ 4294836225 := prod_range _ _ rx2 ry0
  have p21 : 0 ≤ x2 * y1 ∧ x2 * y1 ≤ 4294836225 := prod_range _ _ rx2 ry1
  have p22 : 0 ≤ x2 * y2 ∧ x2 * y2 ≤ 4294836225 := prod_range _ _ rx2 ry2
  have p23 : 0 ≤ x2 * y3 ∧ x2 * y3 ≤ 4294836225 := prod_range _ _ rx2 ry3
  have p30 : 0 ≤ x3 * y0 ∧ x3 * y0 ≤ 4294836225 := prod_range _ _ rx3 ry0
  have p31 : 0 ≤ x3 * y1 ∧ x3 * y1 ≤ 4294836225 := prod_range _ _ rx3 ry1
  have p32 : 0 ≤ x3 * y2 ∧ x3 * y2 ≤ 4294836225 := prod_range _ _ rx3 ry2
  have p33 : 0 ≤ x3 * y3 ∧ x3 * y3 ≤ 4294836225 := prod_range _ _ rx3 ry3
  go_enter Tryz.func80, Tryz.ntmps80
  go_wp2_with fail
  refine (of_dig _ x0 x1 x2 x3 ha.1 ha.2 HX _).mono ?_
  rintro e w1 ⟨rfl, rfl⟩
  go_wp2_with fail
  refine (of_dig _ y0 y1 y2 y3 hb.1 hb.2 HY _).mono ?_
  rintro e w1 ⟨rfl, rfl⟩
  clear ha hb HX HY
  go_wp2_with fail
  have HZ0 := Lib.hid (show ((0 : Nat) ≤ 0 → (0 : Int) = 0) ∧ ((0 : Nat) ≤ 1 → (0 : Int) = 0) ∧ ((0 : Nat) ≤ 2 → (0 : Int) = 0) ∧ ((0 : Nat) ≤ 3 → (0 : Int) = 0) from ⟨fun _ => rfl, fun _ => rfl, fun _ => rfl, fun _ => rfl⟩)
  have HV0 := Lib.hid (show val8 0 0 0 0 0 0 0 0 = sumTo x0 x1 x2 x3 y0 y1 y2 y3 0 from rfl)
  go_loopw [9] (fun i w' => ∃ (n m : Nat) (z d0 d1 d2 d3 d4 d5 d6 d7 : Int), n ≤ 4 ∧ z = n ∧ i = .int .i64 z ∧ w' = (wT w x0 x1 x2 x3 y0 y1 y2 y3 d0 d1 d2 d3 d4 d5 d6 d7).drewN m ∧ (0 ≤ d0 ∧ d0 < 65536) ∧ (0 ≤ d1 ∧ d1 < 65536) ∧ (0 ≤ d2 ∧ d2 < 65536) ∧ (0 ≤ d3 ∧ d3 < 65536) ∧ (0 ≤ d4 ∧ d4 < 65536) ∧ (0 ≤ d5 ∧ d5 < 65536) ∧ (0 ≤ d6 ∧ d6 < 65536) ∧ (0 ≤ d7 ∧ d7 < 65536) ∧
    Hid ((n ≤ 0 → d4 = 0) ∧ (n ≤ 1 → d5 = 0) ∧ (n ≤ 2 → d6 = 0) ∧ (n ≤ 3 → d7 = 0)) ∧ Hid (val8 d0 d1 d2 d3 d4 d5 d6 d7 = sumTo x0 x1 x2 x3 y0 y1 y2 y3 (4 * n))) (fun i _ => 4 - (intOf i).toNat)
  case atStart => exact ⟨0, 0, 0, 0, 0, 0, 0, 0, 0, 0, 0, by omega, rfl, rfl, rfl, by omega, by omega, by omega, by omega, by omega, by omega, by omega, by omega, HZ0, HV0⟩
  case round =>
    clear HZ0 HV0
    obtain ⟨n, m, z, d0, d1, d2, d3, d4, d5, d6, d7, hn, hz, rfl, rfl, r0, r1, r2, r3, r4, r5, r6, r7, HZ, HV⟩ := hrel
    have hn : n = 0 ∨ n = 1 ∨ n = 2 ∨ n = 3 ∨ n = 4 := by omega
    unfold wT
    rcases hn with rfl | rfl | rfl | rfl | rfl
    · obtain rfl : z = 0 := hz
      have HZ' := Lib.hid (show d4 = 0 ∧ d5 = 0 ∧ d6 = 0 ∧ d7 = 0 by have h := HZ.out; exact ⟨h.1 (by omega), h.2.1 (by omega), h.2.2.1 (by omega), h.2.2.2 (by omega)⟩)
      clear HZ
      go_wp2_with fail
      go_loopw [10, 11] (fun o k w' => ∃ (q m : Nat) (y ov d0 d1 d2 d3 d4 d5 d6 d7 : Int), q ≤ 4 ∧ y = q ∧ k = .int .i64 y ∧ o = .int .u64 ov ∧ (0 ≤ ov ∧ ov < 65536) ∧ w' = (wT w x0 x1 x2 x3 y0 y1 y2 y3 d0 d1 d2 d3 d4 d5 d6 d7).drewN m ∧ (0 ≤ d0 ∧ d0 < 65536) ∧ (0 ≤ d1 ∧ d1 < 65536) ∧ (0 ≤ d2 ∧ d2 < 65536) ∧ (0 ≤ d3 ∧ d3 < 65536) ∧ (0 ≤ d4 ∧ d4 < 65536) ∧ (0 ≤ d5 ∧ d5 < 65536) ∧ (0 ≤ d6 ∧ d6 < 65536) ∧ (0 ≤ d7 ∧ d7 < 65536) ∧
        Hid (d4 = 0 ∧ d5 = 0 ∧ d6 = 0 ∧ d7 = 0) ∧ Hid (val8 d0 d1 d2 d3 d4 d5 d6 d7 + ov * [1, 65536, 4294967296, 281474976710656, 18446744073709551616].getD q 0 = sumTo x0 x1 x2 x3 y0 y1 y2 y3 (0 + q))) (fun _ k _ => 4 - (intOf k).toNat)
      case atStart => exact ⟨0, m, 0, 0, _, _, _, _, _, _, _, _, by omega, rfl, rfl, rfl, by omega, rfl, by omega, by omega, by omega, by omega, by omega, by omega, by omega, by omega, HZ', Lib.hid (by have := HV.out; simp only [Int.zero_mul, Int.add_zero]; exact this)⟩
      case round =>
        clear HZ' HV r0 r1 r2 r3 r4 r5 r6 r7 m
        clear d0 d1 d2 d3 d4 d5 d6 d7
        obtain ⟨q, m, y, ov, d0, d1, d2, d3, d4, d5, d6, d7, hq, hy, rfl, rfl, rov, rfl, r0, r1, r2, r3, r4, r5, r6, r7, HZ, HV⟩ := hrel
        have hq : q = 0 ∨ q = 1 ∨ q = 2 ∨ q = 3 ∨ q = 4 := by omega
        unfold wT
        rcases hq with rfl | rfl | rfl | rfl | rfl
        · obtain rfl : y = 0 := hy
          have HV' := hv00 x0 x1 x2 x3 y0 y1 y2 y3 d0 d1 d2 d3 d4 d5 d6 d7 ov HV
          have pp := p00
          go_wp2_with fail
          go_quiet (fail)
          go_wp2_with fail
          go_roundw
          case rel => exact ⟨1, _, 1, _, _, _, _, _, _, _, _, _, by omega, rfl, rfl, rfl, by omega, (set_out _ _ _ _ _ _ _ (by simp)).trans rfl, by omega, by omega, by omega, by omega, by omega, by omega, by omega, by omega, HZ, HV'⟩
          case measure => simp [intOf]
        · obtain rfl : y = 1 := hy
          have HV' := hv01 x0 x1 x2 x3 y0 y1 y2 y3 d0 d1 d2 d3 d4 d5 d6 d7 ov HV
          have pp := p01
          go_wp2_with fail
          go_quiet (fail)
          go_wp2_with fail
          go_roundw
          case rel => exact ⟨2, _, 2, _, _, _, _, _, _, _, _, _, by omega, rfl, rfl, rfl, by omega, (set_out _ _ _ _ _ _ _ (by simp)).trans rfl, by omega, by omega, by omega, by omega, by omega, by omega, by omega, by omega, HZ, HV'⟩
          case measure => simp [intOf]
        · obtain rfl : y = 2 := hy
          have HV' := hv02 x0 x1 x2 x3 y0 y1 y2 y3 d0 d1 d2 d3 d4 d5 d6 d7 ov HV
          have pp := p02
          go_wp2_with fail
          go_quiet (fail)
          go_wp2_with fail
          go_roundw
          case rel => exact ⟨3, _, 3, _, _, _, _, _, _, _, _, _, by omega, rfl, rfl, rfl, by omega, (set_out _ _ _ _ _ _ _ (by simp)).trans rfl, by omega, by omega, by omega, by omega, by omega, by omega, by omega, by omega, HZ, HV'⟩
          case measure => simp [intOf]
        · obtain rfl : y = 3 := hy
          have HV' := hv03 x0 x1 x2 x3 y0 y1 y2 y3 d0 d1 d2 d3 d4 d5 d6 d7 ov HV
          have pp := p03
          go_wp2_with fail
          go_quiet (fail)
          go_wp2_with fail
          go_roundw
          case rel => exact ⟨4, _, 4, _, _, _, _, _, _, _, _, _, by omega, rfl, rfl, rfl, by omega, (set_out _ _ _ _ _ _ _ (by simp)).trans rfl, by omega, by omega, by omega, by omega, by omega, by omega, by omega, by omega, HZ, HV'⟩
          case measure => simp [intOf]
        · obtain rfl : y = 4 := hy
          have hz := HZ.out
          have e4 : d4 = 0 := hz.1
          have HV' := hv04 x0 x1 x2 x3 y0 y1 y2 y3 d0 d1 d2 d3 d4 d5 d6 d7 ov HV
          have HZ' := Lib.hid (show ((1 : Nat) ≤ 0 → (d4 + ov) = 0) ∧ ((1 : Nat) ≤ 1 → d5 = 0) ∧ ((1 : Nat) ≤ 2 → d6 = 0) ∧ ((1 : Nat) ≤ 3 → d7 = 0) by omega)
          have rn : 0 ≤ d4 + ov ∧ d4 + ov < 65536 := by omega
          clear hz e4 HZ HV
          go_wp2_with fail
          go_roundw
          case rel => exact ⟨1, _, 1, _, _, _, _, _, _, _, _, by omega, rfl, rfl, (set_out _ _ _ _ _ _ _ (by simp)).trans rfl, r0, r1, r2, r3, rn, r5, r6, r7, HZ', HV'⟩
          case measure => simp [intOf]
    · obtain rfl : z = 1 := hz
      have HZ' := Lib.hid (show d5 = 0 ∧ d6 = 0 ∧ d7 = 0 by have h := HZ.out; exact ⟨h.2.1 (by omega), h.2.2.1 (by omega), h.2.2.2 (by omega)⟩)
      clear HZ
      go_wp2_with fail
      go_loopw [10, 11] (fun o k w' => ∃ (q m : Nat) (y ov d0 d1 d2 d3 d4 d5 d6 d7 : Int), q ≤ 4 ∧ y = q ∧ k = .int .i64 y ∧ o = .int .u64 ov ∧ (0 ≤ ov ∧ ov < 65536) ∧ w' = (wT w x0 x1 x2 x3 y0 y1 y2 y3 d0 d1 d2 d3 d4 d5 d6 d7).drewN m ∧ (0 ≤ d0 ∧ d0 < 65536) ∧ (0 ≤ d1 ∧ d1 < 65536) ∧ (0 ≤ d2 ∧ d2 < 65536) ∧ (0 ≤ d3 ∧ d3 < 65536) ∧ (0 ≤ d4 ∧ d4 < 65536) ∧ (0 ≤ d5 ∧ d5 < 65536) ∧ (0 ≤ d6 ∧ d6 < 65536) ∧ (0 ≤ d7 ∧ d7 < 65536) ∧
        Hid (d5 = 0 ∧ d6 = 0 ∧ d7 = 0) ∧ Hid (val8 d0 d1 d2 d3 d4 d5 d6 d7 + ov * [65536, 4294967296, 281474976710656, 18446744073709551616, 1208925819614629174706176].getD q 0 = sumTo x0 x1 x2 x3 y0 y1 y2 y3 (4 + q))) (fun _ k _ => 4 - (intOf k).toNat)
      case atStart => exact ⟨0, m, 0, 0, _, _, _, _, _, _, _, _, by omega, rfl, rfl, rfl, by omega, rfl, by omega, by omega, by omega, by omega, by omega, by omega, by omega, by omega, HZ', Lib.hid (by have := HV.out; simp only [Int.zero_mul, Int.add_zero]; exact this)⟩
      case round =>
        clear HZ' HV r0 r1 r2 r3 r4 r5 r6 r7 m
        clear d0 d1 d2 d3 d4 d5 d6 d7
        obtain ⟨q, m, y, ov, d0, d1, d2, d3, d4, d5, d6, d7, hq, hy, rfl, rfl, rov, rfl, r0, r1, r2, r3, r4, r5, r6, r7, HZ, HV⟩ := hrel
        have hq : q = 0 ∨ q = 1 ∨ q = 2 ∨ q = 3 ∨ q = 4 := by omega
        unfold wT
        rcases hq with rfl | rfl | rfl | rfl | rfl
        · obtain rfl : y = 0 := hy
          have HV' := hv10 x0 x1 x2 x3 y0 y1 y2 y3 d0 d1 d2 d3 d4 d5 d6 d7 ov HV
          have pp := p10
          go_wp2_with fail
          go_quiet (fail)
          go_wp2_with fail
          go_roundw
          case rel => exact ⟨1, _, 1, _, _, _, _, _, _, _, _, _, by omega, rfl, rfl, rfl, by omega, (set_out _ _ _ _ _ _ _ (by simp)).trans rfl, by omega, by omega, by omega, by omega, by omega, by omega, by omega, by omega, HZ, HV'⟩
          case measure => simp [intOf]
        · obtain rfl : y = 1 := hy
          have HV' := hv11 x0 x1 x2 x3 y0 y1 y2 y3 d0 d1 d2 d3 d4 d5 d6 d7 ov HV
          have pp := p11
          go_wp2_with fail
          go_quiet (fail)
          go_wp2_with fail
          go_roundw
          case rel => exact ⟨2, _, 2, _, _, _, _, _, _, _, _, _, by omega, rfl, rfl, rfl, by omega, (set_out _ _ _ _ _ _ _ (by simp)).trans rfl, by omega, by omega, by omega, by omega, by omega, by omega, by omega, by omega, HZ, HV'⟩
          case measure => simp [intOf]
        · obtain rfl : y = 2 := hy
          have HV' := hv12 x0 x1 x2 x3 y0 y1 y2 y3 d0 d1 d2 d3 d4 d5 d6 d7 ov HV
          have pp := p12
          go_wp2_with fail
          go_quiet (fail)
          go_wp2_with fail
          go_roundw
          case rel => exact ⟨3, _, 3, _, _, _, _, _, _, _, _, _, by omega, rfl, rfl, rfl, by omega, (set_out _ _ _ _ _ _ _ (by simp)).trans rfl, by omega, by omega, by omega, by omega, by omega, by omega, by omega, by omega, HZ, HV'⟩
          case measure => simp [intOf]
        · obtain rfl : y = 3 := hy
          have HV' := hv13 x0 x1 x2 x3 y0 y1 y2 y3 d0 d1 d2 d3 d4 d5 d6 d7 ov HV
          have pp := p13
          go_wp2_with fail
          go_quiet (fail)
          go_wp2_with fail
          go_roundw
          case rel => exact ⟨4, _, 4, _, _, _, _, _, _, _, _, _, by omega, rfl, rfl, rfl, by omega, (set_out _ _ _ _ _ _ _ (by simp)).trans rfl, by omega, by omega, by omega, by omega, by omega, by omega, by omega, by omega, HZ, HV'⟩
          case measure => simp [intOf]
        · obtain rfl : y = 4 := hy
          have hz := HZ.out
          have e5 : d5 = 0 := hz.1
          have HV' := hv14 x0 x1 x2 x3 y0 y1 y2 y3 d0 d1 d2 d3 d4 d5 d6 d7 ov HV
          have HZ' := Lib.hid (show ((2 : Nat) ≤ 0 → d4 = 0) ∧ ((2 : Nat) ≤ 1 → (d5 + ov) = 0) ∧ ((2 : Nat) ≤ 2 → d6 = 0) ∧ ((2 : Nat) ≤ 3 → d7 = 0) by omega)
          have rn : 0 ≤ d5 + ov ∧ d5 + ov < 65536 := by omega
          clear hz e5 HZ HV
          go_wp2_with fail
          go_roundw
          case rel => exact ⟨2, _, 2, _, _, _, _, _, _, _, _, by omega, rfl, rfl, (set_out _ _ _ _ _ _ _ (by simp)).trans rfl, r0, r1, r2, r3, r4, rn, r6, r7, HZ', HV'⟩
          case measure => simp [intOf]
    · obtain rfl : z = 2 := hz
      have HZ' := Lib.hid (show d6 = 0 ∧ d7 = 0 by have h := HZ.out; exact ⟨h.2.2.1 (by omega), h.2.2.2 (by omega)⟩)
      clear HZ
      go_wp2_with fail
      go_loopw [10, 11] (fun o k w' => ∃ (q m : Nat) (y ov d0 d1 d2 d3 d4 d5 d6 d7 : Int), q ≤ 4 ∧ y = q ∧ k = .int .i64 y ∧ o = .int .u64 ov ∧ (0 ≤ ov ∧ ov < 65536) ∧ w' = (wT w x0 x1 x2 x3 y0 y1 y2 y3 d0 d1 d2 d3 d4 d5 d6 d7).drewN m ∧ (0 ≤ d0 ∧ d0 < 65536) ∧ (0 ≤ d1 ∧ d1 < 65536) ∧ (0 ≤ d2 ∧ d2 < 65536) ∧ (0 ≤ d3 ∧ d3 < 65536) ∧ (0 ≤ d4 ∧ d4 < 65536) ∧ (0 ≤ d5 ∧ d5 < 65536) ∧ (0 ≤ d6 ∧ d6 < 65536) ∧ (0 ≤ d7 ∧ d7 < 65536) ∧
        Hid (d6 = 0 ∧ d7 = 0) ∧ Hid (val8 d0 d1 d2 d3 d4 d5 d6 d7 + ov * [4294967296, 281474976710656, 18446744073709551616, 1208925819614629174706176, 79228162514264337593543950336].getD q 0 = sumTo x0 x1 x2 x3 y0 y1 y2 y3 (8 + q))) (fun _ k _ => 4 - (intOf k).toNat)
      case atStart => exact ⟨0, m, 0, 0, _, _, _, _, _, _, _, _, by omega, rfl, rfl, rfl, by omega, rfl, by omega, by omega, by omega, by omega, by omega, by omega, by omega, by omega, HZ', Lib.hid (by have := HV.out; simp only [Int.zero_mul, Int.add_zero]; exact this)⟩
      case round =>
        clear HZ' HV r0 r1 r2 r3 r4 r5 r6 r7 m
        clear d0 d1 d2 d3 d4 d5 d6 d7
        obtain ⟨q, m, y, ov, d0, d1, d2, d3, d4, d5, d6, d7, hq, hy, rfl, rfl, rov, rfl, r0, r1, r2, r3, r4, r5, r6, r7, HZ, HV⟩ := hrel
        have hq : q = 0 ∨ q = 1 ∨ q = 2 ∨ q = 3 ∨ q = 4 := by omega
        unfold wT
        rcases hq with rfl | rfl | rfl | rfl | rfl
        · obtain rfl : y = 0 := hy
          have HV' := hv20 x0 x1 x2 x3 y0 y1 y2 y3 d0 d1 d2 d3 d4 d5 d6 d7 ov HV
          have pp := p20
          go_wp2_with fail
          go_quiet (fail)
          go_wp2_with fail
          go_roundw
          case rel => exact ⟨1, _, 1, _, _, _, _, _, _, _, _, _, by omega, rfl, rfl, rfl, by omega, (set_out _ _ _ _ _ _ _ (by simp)).trans rfl, by omega, by omega, by omega, by omega, by omega, by omega, by omega, by omega, HZ, HV'⟩
          case measure => simp [intOf]
        · obtain rfl : y = 1 := hy
          have HV' := hv21 x0 x1 x2 x3 y0 y1 y2 y3 d0 d1 d2 d3 d4 d5 d6 d7 ov HV
          have pp := p21
          go_wp2_with fail
          go_quiet (fail)
          go_wp2_with fail
          go_roundw
          case rel => exact ⟨2, _, 2, _, _, _, _, _, _, _, _, _, by omega, rfl, rfl, rfl, by omega, (set_out _ _ _ _ _ _ _ (by simp)).trans rfl, by omega, by omega, by omega, by omega, by omega, by omega, by omega, by omega, HZ, HV'⟩
          case measure => simp [intOf]
        · obtain rfl : y = 2 := hy
          have HV' := hv22 x0 x1 x2 x3 y0 y1 y2 y3 d0 d1 d2 d3 d4 d5 d6 d7 ov HV
          have pp := p22
          go_wp2_with fail
          go_quiet (fail)
          go_wp2_with fail
          go_roundw
          case rel => exact ⟨3, _, 3, _, _, _, _, _, _, _, _, _, by omega, rfl, rfl, rfl, by omega, (set_out _ _ _ _ _ _ _ (by simp)).trans rfl, by omega, by omega, by omega, by omega, by omega, by omega, by omega, by omega, HZ, HV'⟩
          case measure => simp [intOf]
        · obtain rfl : y = 3 := hy
          have HV' := hv23 x0 x1 x2 x3 y0 y1 y2 y3 d0 d1 d2 d3 d4 d5 d6 d7 ov HV
          have pp := p23
          go_wp2_with fail
          go_quiet (fail)
          go_wp2_with fail
          go_roundw
          case rel => exact ⟨4, _, 4, _, _, _, _, _, _, _, _, _, by omega, rfl, rfl, rfl, by omega, (set_out _ _ _ _ _ _ _ (by simp)).trans rfl, by omega, by omega, by omega, by omega, by omega, by omega, by omega, by omega, HZ, HV'⟩
          case measure => simp [intOf]
        · obtain rfl : y = 4 := hy
          have hz := HZ.out
          have e6 : d6 = 0 := hz.1
          have HV' := hv24 x0 x1 x2 x3 y0 y1 y2 y3 d0 d1 d2 d3 d4 d5 d6 d7 ov HV
          have HZ' := Lib.hid (show ((3 : Nat) ≤ 0 → d4 = 0) ∧ ((3 : Nat) ≤ 1 → d5 = 0) ∧ ((3 : Nat) ≤ 2 → (d6 + ov) = 0) ∧ ((3 : Nat) ≤ 3 → d7 = 0) by omega)
          have rn : 0 ≤ d6 + ov ∧ d6 + ov < 65536 := by omega
          clear hz e6 HZ HV
          go_wp2_with fail
          go_roundw
          case rel => exact ⟨3, _, 3, _, _, _, _, _, _, _, _, by omega, rfl, rfl, (set_out _ _ _ _ _ _ _ (by simp)).trans rfl, r0, r1, r2, r3, r4, r5, rn, r7, HZ', HV'⟩
          case measure => simp [intOf]
    · obtain rfl : z = 3 := hz
      have HZ' := Lib.hid (show d7 = 0 by have h := HZ.out; exact h.2.2.2 (by omega))
      clear HZ
      go_wp2_with fail
      go_loopw [10, 11] (fun o k w' => ∃ (q m : Nat) (y ov d0 d1 d2 d3 d4 d5 d6 d7 : Int), q ≤ 4 ∧ y = q ∧ k = .int .i64 y ∧ o = .int .u64 ov ∧ (0 ≤ ov ∧ ov < 65536) ∧ w' = (wT w x0 x1 x2 x3 y0 y1 y2 y3 d0 d1 d2 d3 d4 d5 d6 d7).drewN m ∧ (0 ≤ d0 ∧ d0 < 65536) ∧ (0 ≤ d1 ∧ d1 < 65536) ∧ (0 ≤ d2 ∧ d2 < 65536) ∧ (0 ≤ d3 ∧ d3 < 65536) ∧ (0 ≤ d4 ∧ d4 < 65536) ∧ (0 ≤ d5 ∧ d5 < 65536) ∧ (0 ≤ d6 ∧ d6 < 65536) ∧ (0 ≤ d7 ∧ d7 < 65536) ∧
        Hid (d7 = 0) ∧ Hid (val8 d0 d1 d2 d3 d4 d5 d6 d7 + ov * [281474976710656, 18446744073709551616, 1208925819614629174706176, 79228162514264337593543950336, 5192296858534827628530496329220096].getD q 0 = sumTo x0 x1 x2 x3 y0 y1 y2 y3 (12 + q))) (fun _ k _ => 4 - (intOf k).toNat)
      case atStart => exact ⟨0, m, 0, 0, _, _, _, _, _, _, _, _, by omega, rfl, rfl, rfl, by omega, rfl, by omega, by omega, by omega, by omega, by omega, by omega, by omega, by omega, HZ', Lib.hid (by have := HV.out; simp only [Int.zero_mul, Int.add_zero]; exact this)⟩
      case round =>
        clear HZ' HV r0 r1 r2 r3 r4 r5 r6 r7 m
        clear d0 d1 d2 d3 d4 d5 d6 d7
        obtain ⟨q, m, y, ov, d0, d1, d2, d3, d4, d5, d6, d7, hq, hy, rfl, rfl, rov, rfl, r0, r1, r2, r3, r4, r5, r6, r7, HZ, HV⟩ := hrel
        have hq : q = 0 ∨ q = 1 ∨ q = 2 ∨ q = 3 ∨ q = 4 := by omega
        unfold wT
        rcases hq with rfl | rfl | rfl | rfl | rfl
        · obtain rfl : y = 0 := hy
          have HV' := hv30 x0 x1 x2 x3 y0 y1 y2 y3 d0 d1 d2 d3 d4 d5 d6 d7 ov HV
          have pp := p30
          go_wp2_with fail
          go_quiet (fail)
          go_wp2_with fail
          go_roundw
          case rel => exact ⟨1, _, 1, _, _, _, _, _, _, _, _, _, by omega, rfl, rfl, rfl, by omega, (set_out _ _ _ _ _ _ _ (by simp)).trans rfl, by omega, by omega, by omega, by omega, by omega, by omega, by omega, by omega, HZ, HV'⟩
          case measure => simp [intOf]
        · obtain rfl : y = 1 := hy
          have HV' := hv31 x0 x1 x2 x3 y0 y1 y2 y3 d0 d1 d2 d3 d4 d5 d6 d7 ov HV
          have pp := p31
          go_wp2_with fail
          go_quiet (fail)
          go_wp2_with fail
          go_roundw
          case rel => exact ⟨2, _, 2, _, _, _, _, _, _, _, _, _, by omega, rfl, rfl, rfl, by omega, (set_out _ _ _ _ _ _ _ (by simp)).trans rfl, by omega, by omega, by omega, by omega, by omega, by omega, by omega, by omega, HZ, HV'⟩
          case measure => simp [intOf]
        · obtain rfl : y = 2 := hy
          have HV' := hv32 x0 x1 x2 x3 y0 y1 y2 y3 d0 d1 d2 d3 d4 d5 d6 d7 ov HV
          have pp := p32
          go_wp2_with fail
          go_quiet (fail)
          go_wp2_with fail
          go_roundw
          case rel => exact ⟨3, _, 3, _, _, _, _, _, _, _, _, _, by omega, rfl, rfl, rfl, by omega, (set_out _ _ _ _ _ _ _ (by simp)).trans rfl, by omega, by omega, by omega, by omega, by omega, by omega, by omega, by omega, HZ, HV'⟩
          case measure => simp [intOf]
        · obtain rfl : y = 3 := hy
          have HV' := hv33 x0 x1 x2 x3 y0 y1 y2 y3 d0 d1 d2 d3 d4 d5 d6 d7 ov HV
          have pp := p33
          go_wp2_with fail
          go_quiet (fail)
          go_wp2_with fail
          go_roundw
          case rel => exact ⟨4, _, 4, _, _, _, _, _, _, _, _, _, by omega, rfl, rfl, rfl, by omega, (set_out _ _ _ _ _ _ _ (by simp)).trans rfl, by omega, by omega, by omega, by omega, by omega, by omega, by omega, by omega, HZ, HV'⟩
          case measure => simp [intOf]
        · obtain rfl : y = 4 := hy
          have hz := HZ.out
          have e7 : d7 = 0 := hz
          have HV' := hv34 x0 x1 x2 x3 y0 y1 y2 y3 d0 d1 d2 d3 d4 d5 d6 d7 ov HV
          have HZ' := Lib.hid (show ((4 : Nat) ≤ 0 → d4 = 0) ∧ ((4 : Nat) ≤ 1 → d5 = 0) ∧ ((4 : Nat) ≤ 2 → d6 = 0) ∧ ((4 : Nat) ≤ 3 → (d7 + ov) = 0) by omega)
          have rn : 0 ≤ d7 + ov ∧ d7 + ov < 65536 := by omega
          clear hz e7 HZ HV
          go_wp2_with fail
          go_roundw
          case rel => exact ⟨4, _, 4, _, _, _, _, _, _, _, _, by omega, rfl, rfl, (set_out _ _ _ _ _ _ _ (by simp)).trans rfl, r0, r1, r2, r3, r4, r5, r6, rn, HZ', HV'⟩
          case measure => simp [intOf]
    · obtain rfl : z = 4 := hz
      clear HZ p00 p01 p02 p03 p10 p11 p12 p13 p20 p21 p22 p23 p30 p31 p32 p33
      have HE := Lib.hid (prod_end a b x0 x1 x2 x3 y0 y1 y2 y3 d0 d1 d2 d3 d4 d5 d6 d7 HA HB HV r0 r1 r2 r3)
      clear HA HB HV
      go_wp2_with fail
      obtain ⟨c, hc⟩ : ∃ c, c = w.heap.size + 1 + 1 + 1 + 1 := ⟨_, rfl⟩
      obtain ⟨W, hW⟩ : ∃ W, W = ((wT w x0 x1 x2 x3 y0 y1 y2 y3 d0 d1 d2 d3 d4 d5 d6 d7).drewN m) := ⟨_, rfl⟩
      have hcells : W.cell? ⟨c, 0, none⟩ = some (.int .u64 d0) ∧ W.cell? ⟨c, 1, none⟩ = some (.int .u64 d1) ∧ W.cell? ⟨c, 2, none⟩ = some (.int .u64 d2) ∧ W.cell? ⟨c, 3, none⟩ = some (.int .u64 d3) ∧ W.cell? ⟨c, 4, none⟩ = some (.int .u64 d4) ∧ W.cell? ⟨c, 5, none⟩ = some (.int .u64 d5) ∧ W.cell? ⟨c, 6, none⟩ = some (.int .u64 d6) ∧ W.cell? ⟨c, 7, none⟩ = some (.int .u64 d7) := by
        rw [hW]
        refine ⟨cell_new _ _ _ _ _ _ _ (by simp [hc]) rfl, cell_new _ _ _ _ _ _ _ (by simp [hc]) rfl, cell_new _ _ _ _ _ _ _ (by simp [hc]) rfl, cell_new _ _ _ _ _ _ _ (by simp [hc]) rfl, cell_new _ _ _ _ _ _ _ (by simp [hc]) rfl, cell_new _ _ _ _ _ _ _ (by simp [hc]) rfl, cell_new _ _ _ _ _ _ _ (by simp [hc]) rfl, cell_new _ _ _ _ _ _ _ (by simp [hc]) rfl⟩
      obtain ⟨k0, k1, k2, k3, k4, k5, k6, k7⟩ := hcells
      have kB : Below w.heap.size w W := by
        rw [hW]
        refine below_drewN ?_ m
        exact (((((Below.refl _ _).alloc (Nat.le_refl _) _).alloc (by simp) _).alloc (by simp; omega) _).alloc (by simp; omega) _).alloc (by simp; omega) _
      unfold wT at hW
      rw [← hW, ← hc]
      clear hW hc hn rx0 rx1 rx2 rx3 ry0 ry1 ry2 ry3
      go_region_held3 (fun w' => w'.cell? ⟨c, 0, none⟩ = some (.int .u64 d0) ∧ w'.cell? ⟨c, 1, none⟩ = some (.int .u64 d1) ∧ w'.cell? ⟨c, 2, none⟩ = some (.int .u64 d2) ∧ w'.cell? ⟨c, 3, none⟩ = some (.int .u64 d3) ∧ w'.cell? ⟨c, 4, none⟩ = some (.int .u64 d4) ∧ w'.cell? ⟨c, 5, none⟩ = some (.int .u64 d5) ∧ w'.cell? ⟨c, 6, none⟩ = some (.int .u64 d6) ∧ w'.cell? ⟨c, 7, none⟩ = some (.int .u64 d7) ∧ Below w.heap.size w w')
        (first
          | (go_split_ands; (refine ⟨?_, ?_, ?_, ?_, ?_, ?_, ?_, ?_, ?_⟩ <;> (first | assumption | exact keep_drew (by assumption) | exact keep_alloc _ (by assumption) | exact keep_alloc_drew _ (by assumption) | exact Below.drew (by assumption) | exact below_alloc (by assumption) _ | exact Below.drew (below_alloc (by assumption) _)))))
        (first
          | (go_at_call 95; refine (to_any _ _ _ _ (by assumption) (by assumption) (by assumption) (by assumption) _).mono ?_; rintro e w' ⟨rfl, o, rfl⟩))
      go_wp2_with fail
      go_ret2
      exact ⟨by rw [← HE.out.1, ← HE.out.2]; rfl, Below.drew (below_alloc (below_alloc kB _) _)⟩

end Go.Proofs.YtlbihcpglcdmmaaGreat.gd
namespace Go.Proofs.YtlbihcpglcdmmaaGreat.gd
open Go.RowKit

theorem rstep_any (s : Int) (w : World) : Calls Tryz.prog 82 #[.int .u64 s] w fun e w' => e = .returned (.int .u64 (stepZ s)) ∧ w = w' := by
  go_enter Tryz.func82, Tryz.ntmps82
  go_wp2_with fail
  go_ret
  exact ⟨rfl, rfl⟩

theorem fold_any (n b : Int) (h0 : 0 ≤ n) (h1 : n < 18446744073709551616) (hb : 1 ≤ b) (hb1 : b < 18446744073709551616) (w : World) : Calls Tryz.prog 97 #[.int .u64 n, .int .u64 b] w fun e w' => e = .returned (.int .u64 (bits .xor .u64 n (n / b))) ∧ w = w' := by
  have c0 : (b == 0) = false := by simp; omega
  go_enter Tryz.func97, Tryz.ntmps97
  go_wp2_with fail
  go_ret
  exact ⟨rfl, rfl⟩

theorem low_any (a b : Int) (ha : 0 ≤ a ∧ a < 18446744073709551616) (hb : 0 ≤ b ∧ b < 18446744073709551616) (w : World) : Calls Tryz.prog 96 #[.int .u64 a, .int .u64 b] w fun e w' => e = .returned (.int .u64 (IntKind.u64.wrap (a * b))) ∧ Below w.heap.size w w' := by
  go_enter Tryz.func96, Tryz.ntmps96
  go_wp2_with fail
  refine (times_any a b ha hb _).mono ?_
  rintro e w1 ⟨rfl, hb1⟩
  have HB1 := Lib.hid hb1
  clear hb1
  go_wp2_with fail
  go_ret
  exact ⟨ret_int (IntKind.wrap_u64 _).symm, HB1.out⟩

theorem xor_range (a b : Int) : 0 ≤ bits .xor .u64 a b ∧ bits .xor .u64 a b < 18446744073709551616 := wrap_range _

set_option maxHeartbeats 400000 in
theorem rmix_any (n : Int) (h0 : 0 ≤ n) (h1 : n < 18446744073709551616) (w : World) : Calls Tryz.prog 81 #[.int .u64 n] w fun e w' => e = .returned (.int .u64 (mixZ n)) ∧ Below w.heap.size w w' := by
  have q1 := m1_range n
  have q2 := m2_range (m1 n)
  go_enter Tryz.func81, Tryz.ntmps81
  go_wp2_with fail
  refine (fold_any n 1073741824 h0 h1 (by omega) (by omega) _).mono ?_
  rintro e w1 ⟨rfl, rfl⟩
  go_wp2_with fail
  refine (low_any _ 13787848793156543929 (xor_range _ _) (by omega) _).mono ?_
  rintro e w1 ⟨rfl, hb1⟩
  have HB1 := Lib.hid hb1
  clear hb1
  rw [show IntKind.u64.wrap (bits .xor .u64 n (n / 1073741824) * 13787848793156543929) = m1 n from rfl]
  go_wp2_with fail
  refine (fold_any (m1 n) 134217728 q1.1 q1.2 (by omega) (by omega) _).mono ?_
  rintro e w2 ⟨rfl, rfl⟩
  go_wp2_with fail
  refine (low_any _ 10723151780598845931 (xor_range _ _) (by omega) _).mono ?_
  rintro e w2 ⟨rfl, hb1⟩
  have HB2 := Lib.hid hb1
  clear hb1
  rw [show IntKind.u64.wrap (bits .xor .u64 (m1 n) (m1 n / 134217728) * 10723151780598845931) = m2 (m1 n) from rfl]
  go_wp2_with fail
  refine (fold_any (m2 (m1 n)) 2147483648 q2.1 q2.2 (by omega) (by omega) _).mono ?_
  rintro e w3 ⟨rfl, rfl⟩
  go_wp2_with fail
  go_ret
  exact ⟨rfl, HB1.out.trans (HB2.out.mono HB1.out.size)⟩

theorem seqB {w w1 w2 : World} (h1 : Below w.heap.size w w1) (h2 : Below w1.heap.size w1 w2) : Below w.heap.size w w2 := h1.trans (h2.mono h1.size)

set_option maxHeartbeats 400000 in
theorem rbelow_any (s n : Int) (h : 1 ≤ n) (h1 : n < 9223372036854775808) (w : World) : Calls Tryz.prog 55 #[.int .u64 s, .int .i64 n] w fun e w' => e = .returned (.tuple #[.int .i64 (takeZ s n), .int .u64 (stepZ s)]) ∧ Below w.heap.size w w' := by
  have hs := stepZ_range s
  have hv := mixZ_range (stepZ s)
  have ht := takeZ_range s n h
  have HT := Lib.hid (show mixZ (stepZ s) * n / 18446744073709551616 = takeZ s n from rfl)
  have c0 : decide (n < 1) = false := by simp; omega
  go_enter Tryz.func55, Tryz.ntmps55
  go_wp2_with fail
  refine (rstep_any _ _).mono ?_
  rintro e w1 ⟨rfl, rfl⟩
  go_wp2_with fail
  refine (rmix_any _ hs.1 hs.2 _).mono ?_
  rintro e w1 ⟨rfl, hb1⟩
  have HB1 := Lib.hid hb1
  clear hb1
  go_wp2_with fail
  refine (times_any _ _ hv (by omega) _).mono ?_
  rintro e w2 ⟨rfl, hb1⟩
  have HB2 := Lib.hid hb1
  clear hb1
  rw [HT.out]
  go_wp2_with fail
  refine (rstep_any _ _).mono ?_
  rintro e w3 ⟨rfl, rfl⟩
  go_wp2_with fail
  go_ret2
  exact ⟨rfl, seqB HB1.out HB2.out⟩
theorem rbelow_none (s n : Int) (h : n < 1) (w : World) : Calls Tryz.prog 55 #[.int .u64 s, .int .i64 n] w fun e w' => e = .returned (.tuple #[.int .i64 0, .int .u64 s]) ∧ Below w.heap.size w w' := by
  have c0 : decide (n < 1) = true := by simp; omega
  go_enter Tryz.func55, Tryz.ntmps55
  go_wp2_with fail
  go_ret2
  exact ⟨rfl, Below.refl _ _⟩

end Go.Proofs.YtlbihcpglcdmmaaGreat.gd
namespace Go.Proofs.YtlbihcpglcdmmaaGreat.gd
open Go.RowKit

theorem range_o1 (s a b : Int) (h : b < a) (w : World) : Calls Tryz.prog 67 #[.int .u64 s, .int .i64 a, .int .i64 b] w fun e w' => e = .returned (.tuple #[.int .i64 a, .int .u64 s]) ∧ w = w' := by
  have c1 : decide (b < a) = true := by simp; omega
  go_enter Tryz.func67, Tryz.ntmps67
  go_wp2_with fail
  go_ret2
  exact ⟨rfl, rfl⟩

theorem range_o2 (s a b : Int) (h : a ≤ b) (h2 : a < -1099511627776) (w : World) : Calls Tryz.prog 67 #[.int .u64 s, .int .i64 a, .int .i64 b] w fun e w' => e = .returned (.tuple #[.int .i64 a, .int .u64 s]) ∧ w = w' := by
  have c1 : decide (b < a) = false := by simp; omega
  have c2 : decide (a < -1099511627776) = true := by simp; omega
  go_enter Tryz.func67, Tryz.ntmps67
  go_wp2_with fail
  go_ret2
  exact ⟨rfl, rfl⟩

theorem range_o3 (s a b : Int) (h : a ≤ b) (h2 : -1099511627776 ≤ a) (h3 : 1099511627776 < b) (w : World) : Calls Tryz.prog 67 #[.int .u64 s, .int .i64 a, .int .i64 b] w fun e w' => e = .returned (.tuple #[.int .i64 a, .int .u64 s]) ∧ w = w' := by
  have c1 : decide (b < a) = false := by simp; omega
  have c2 : decide (a < -1099511627776) = false := by simp; omega
  have c5 : decide (1099511627776 < b) = true := by simp; omega
  go_enter Tryz.func67, Tryz.ntmps67
  go_wp2_with fail
  go_ret2
  exact ⟨rfl, rfl⟩

theorem rrange_o1 (s a b : Int) (h : b < a) (w : World) : Calls Tryz.prog 76 #[.int .u64 s, .int .i64 a, .int .i64 b] w fun e w' => e = .returned (.tuple #[.int .i64 a, .int .u64 s]) ∧ Below w.heap.size w w' := by
  have c1 : decide (b < a) = true := by simp; omega
  go_enter Tryz.func76, Tryz.ntmps76
  go_wp2_with fail
  go_ret2
  exact ⟨rfl, Below.refl _ _⟩

theorem rrange_o2 (s a b : Int) (h : a ≤ b) (h2 : a < -1099511627776) (w : World) : Calls Tryz.prog 76 #[.int .u64 s, .int .i64 a, .int .i64 b] w fun e w' => e = .returned (.tuple #[.int .i64 a, .int .u64 s]) ∧ Below w.heap.size w w' := by
  have c1 : decide (b < a) = false := by simp; omega
  have c2 : decide (a < -1099511627776) = true := by simp; omega
  go_enter Tryz.func76, Tryz.ntmps76
  go_wp2_with fail
  go_ret2
  exact ⟨rfl, Below.refl _ _⟩

theorem rrange_o3 (s a b : Int) (h : a ≤ b) (h2 : 1099511627776 < a) (w : World) : Calls Tryz.prog 76 #[.int .u64 s, .int .i64 a, .int .i64 b] w fun e w' => e = .returned (.tuple #[.int .i64 a, .int .u64 s]) ∧ Below w.heap.size w w' := by
  have c1 : decide (b < a) = false := by simp; omega
  have c2 : decide (a < -1099511627776) = false := by simp; omega
  have c3 : decide (1099511627776 < a) = true := by simp; omega
  go_enter Tryz.func76, Tryz.ntmps76
  go_wp2_with fail
  go_ret2
  exact ⟨rfl, Below.refl _ _⟩

theorem rrange_o5 (s a b : Int) (h : a ≤ b) (h2 : -1099511627776 ≤ a) (h3 : a ≤ 1099511627776) (h4 : 1099511627776 < b) (w : World) : Calls Tryz.prog 76 #[.int .u64 s, .int .i64 a, .int .i64 b] w fun e w' => e = .returned (.tuple #[.int .i64 a, .int .u64 s]) ∧ Below w.heap.size w w' := by
  have c1 : decide (b < a) = false := by simp; omega
  have c2 : decide (a < -1099511627776) = false := by simp; omega
  have c3 : decide (1099511627776 < a) = false := by simp; omega
  have c4 : decide (b < -1099511627776) = false := by simp; omega
  have c5 : decide (1099511627776 < b) = true := by simp; omega
  go_enter Tryz.func76, Tryz.ntmps76
  go_wp2_with fail
  go_ret2
  exact ⟨rfl, Below.refl _ _⟩

set_option maxHeartbeats 400000 in
theorem range_in (s a b : Int) (h : a ≤ b) (h2 : -1099511627776 ≤ a) (h3 : b ≤ 1099511627776) (w : World) : Calls Tryz.prog 67 #[.int .u64 s, .int .i64 a, .int .i64 b] w fun e w' => e = .returned (.tuple #[.int .i64 (a + takeZ s (b - a + 1)), .int .u64 (stepZ s)]) ∧ w = w' := by
  have ht := takeZ_range s (b - a + 1) (by omega)
  have c1 : decide (b < a) = false := by simp; omega
  have c2 : decide (a < -1099511627776) = false := by simp; omega
  have c5 : decide (1099511627776 < b) = false := by simp; omega
  go_enter Tryz.func67, Tryz.ntmps67
  go_wp2_with fail
  refine (below_any s (b - a + 1) (by omega) (by omega) _).mono ?_
  rintro e w1 ⟨rfl, rfl⟩
  go_wp2_with fail
  go_ret2
  exact ⟨rfl, rfl⟩

set_option maxHeartbeats 400000 in
theorem rrange_in (s a b : Int) (h : a ≤ b) (h2 : -1099511627776 ≤ a) (h3 : b ≤ 1099511627776) (w : World) : Calls Tryz.prog 76 #[.int .u64 s, .int .i64 a, .int .i64 b] w fun e w' => e = .returned (.tuple #[.int .i64 (a + takeZ s (b - a + 1)), .int .u64 (stepZ s)]) ∧ Below w.heap.size w w' := by
  have ht := takeZ_range s (b - a + 1) (by omega)
  have c1 : decide (b < a) = false := by simp; omega
  have c2 : decide (a < -1099511627776) = false := by simp; omega
  have c3 : decide (1099511627776 < a) = false := by simp; omega
  have c4 : decide (b < -1099511627776) = false := by simp; omega
  have c5 : decide (1099511627776 < b) = false := by simp; omega
  go_enter Tryz.func76, Tryz.ntmps76
  go_wp2_with fail
  refine (rbelow_any s (b - a + 1) (by omega) (by omega) _).mono ?_
  rintro e w1 ⟨rfl, hb1⟩
  have HB1 := Lib.hid hb1
  clear hb1
  go_wp2_with fail
  go_ret2
  exact ⟨rfl, HB1.out⟩

/-- What Range tells: a number, and the state behind it. -/
def rangeV (s a b : Int) : Int := if a ≤ b ∧ -1099511627776 ≤ a ∧ b ≤ 1099511627776 then a + takeZ s (b - a + 1) else a
def rangeS (s a b : Int) : Int := if a ≤ b ∧ -1099511627776 ≤ a ∧ b ≤ 1099511627776 then stepZ s else s
theorem range_any (s a b : Int) (w : World) : Calls Tryz.prog 67 #[.int .u64 s, .int .i64 a, .int .i64 b] w fun e w' => e = .returned (.tuple #[.int .i64 (rangeV s a b), .int .u64 (rangeS s a b)]) ∧ w = w' := by
  unfold rangeV rangeS
  by_cases h : a ≤ b ∧ -1099511627776 ≤ a ∧ b ≤ 1099511627776
  · rw [if_pos h, if_pos h]
    exact range_in s a b h.1 h.2.1 h.2.2 w
  · rw [if_neg h, if_neg h]
    by_cases h1 : b < a
    · exact range_o1 s a b h1 w
    · by_cases h2 : a < -1099511627776
      · exact range_o2 s a b (by omega) h2 w
      · exact range_o3 s a b (by omega) (by omega) (by omega) w
theorem rrange_any (s a b : Int) (w : World) : Calls Tryz.prog 76 #[.int .u64 s, .int .i64 a, .int .i64 b] w fun e w' => e = .returned (.tuple #[.int .i64 (rangeV s a b), .int .u64 (rangeS s a b)]) ∧ Below w.heap.size w w' := by
  unfold rangeV rangeS
  by_cases h : a ≤ b ∧ -1099511627776 ≤ a ∧ b ≤ 1099511627776
  · rw [if_pos h, if_pos h]
    exact rrange_in s a b h.1 h.2.1 h.2.2 w
  · rw [if_neg h, if_neg h]
    by_cases h1 : b < a
    · exact rrange_o1 s a b h1 w
    · by_cases h2 : a < -1099511627776
      · exact rrange_o2 s a b (by omega) h2 w
      · by_cases h3 : 1099511627776 < a
        · exact rrange_o3 s a b (by omega) h3 w
        · exact rrange_o5 s a b (by omega) (by omega) (by omega) (by omega) w
end Go.Proofs.YtlbihcpglcdmmaaGreat.gd

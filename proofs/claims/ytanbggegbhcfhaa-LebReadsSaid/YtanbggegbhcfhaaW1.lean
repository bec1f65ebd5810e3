/-
  Contracts: what leb.Get and leb.Put answer. Conditions: as each states.
-/
import Derived.Test.YtanbggegbhcfhaaChecked
import Derived.Test.YtanbggegbhcfhaaM
import Derived.Test.YtanbggegbhcfhaaShelf
import Derived.WalkKit
import Derived.WalkMore
import Derived.Lib.Hide
import Derived.BigQuiet
import Derived.Deep.QuietTactic
import Derived.RegionTactic
import Derived.Laws.BitsAllLaws
import Derived.Laws.BitsLemmas
import Derived.OwnWalk
import Derived.Laws.AppendOwn
import Derived.Deep.AppendLies
import Derived.Lib.SliceRun
import Derived.Lib.Walk
import Derived.IntWalk
import Derived.Shelf.Bytes.SlSmallAll
namespace Go.Proofs.Ytanbggegbhcfhaa
open Go.RowKit

theorem ret_int {k : IntKind} {a b : Int} (h : a = b) : Ending.returned (.int k a) = .returned (.int k b) := by rw [h]
theorem ret_bool {a b : Bool} (h : a = b) : Ending.returned (.bool a) = .returned (.bool b) := by rw [h]
theorem ret_int2 {k l : IntKind} {a b c d : Int} (h : a = b) (h' : c = d) : Ending.returned (.tuple #[.int k a, .int l c]) = .returned (.tuple #[.int k b, .int l d]) := by rw [h, h']

theorem allB_getD {xs : List Int} (h : AllB xs) (k : Nat) : 0 ≤ xs.getD k 0 ∧ xs.getD k 0 < 256 := by
  rw [List.getD_eq_getElem?_getD]
  rcases Nat.lt_or_ge k xs.length with hk | hk
  · rw [List.getElem?_eq_getElem hk]
    exact h _ (List.getElem_mem hk)
  · rw [List.getElem?_eq_none hk]
    decide

theorem andNot_seven (q : Int) (h0 : 0 ≤ q) (h1 : q < 256) : bits .andNot .u8 q 128 = q % 128 := by
  have h : ∀ k : Fin 256, bits .andNot .u8 (k.val : Int) 128 = ((k.val % 128 : Nat) : Int) := by decide +kernel
  obtain ⟨n, rfl⟩ := Int.eq_ofNat_of_zero_le h0
  exact h ⟨n, by omega⟩
theorem or_top (q : Int) (h0 : 0 ≤ q) (h1 : q < 256) : bits .or .u8 q 128 = q % 128 + 128 := by
  have h : ∀ k : Fin 256, bits .or .u8 (k.val : Int) 128 = ((k.val % 128 + 128 : Nat) : Int) := by decide +kernel
  obtain ⟨n, rfl⟩ := Int.eq_ofNat_of_zero_le h0
  exact h ⟨n, by omega⟩
theorem pow128 (k : Nat) : 128 ^ k = 2 ^ (7 * k) := by rw [Nat.pow_mul]
theorem pow_le8 (k : Nat) (h : k ≤ 8) : 128 ^ k ≤ 72057594037927936 := Nat.pow_le_pow_right (n := 128) (by omega) h
/-- Seven bits more, above those that are there. -/
theorem or_seven (y k : Nat) (q : Int) (h0 : 0 ≤ q) (h1 : q < 256) (hk : k ≤ 8) (hy : y < 128 ^ k) :
    bits .or .i64 (y : Int) (wrap64 (wrap64 (bits .andNot .u8 q 128) * 2 ^ (7 * k))) = ((y + (q.toNat % 128) * 128 ^ k : Nat) : Int) := by
  have hp := pow_le8 k hk
  have hs : (q.toNat % 128) * 128 ^ k ≤ 127 * 128 ^ k := Nat.mul_le_mul_right _ (by omega)
  rw [andNot_seven q h0 h1, IntWalk.wrap64_in (q % 128) (by omega)]
  have e : q % 128 * 2 ^ (7 * k) = ((q.toNat % 128 * 128 ^ k : Nat) : Int) := by
    rw [pow128, Int.natCast_mul, Int.natCast_pow]
    congr 1
    omega
  rw [e, IntWalk.wrap64_in _ (by omega)]
  generalize hz : q.toNat % 128 = z at *
  have ho : y + z * 128 ^ k = z * 128 ^ k ||| y := by
    rw [pow128] at hy ⊢
    rw [Nat.mul_comm z, ← Nat.two_pow_add_eq_or_of_lt hy, Nat.add_comm]
  rw [Nat.or_comm] at ho
  have hb : ∀ a : Nat, a < 9223372036854775808 → (BitVec.ofInt 64 (a : Int)).toNat = a := fun a ha => by
    rw [BitVec.ofInt_natCast, BitVec.toNat_ofNat]
    exact Nat.mod_eq_of_lt (by omega)
  show IntKind.i64.wrap ((BitVec.ofInt 64 (y : Int) ||| BitVec.ofInt 64 ((z * 128 ^ k : Nat) : Int)).toNat : Int) = _
  rw [BitVec.toNat_or, hb y (by omega), hb _ (by omega), ← ho, IntWalk.i64_in _ (by omega)]

set_option maxHeartbeats 800000 in
theorem get_any (p : Option Addr) (n c : Nat) (xs : List Int) (w : World) (hx : xs.length = n) (hnc : n ≤ c) (_hm : c ≤ 9223372036854775807) (hb : AllB xs) (hi : Lib.BytesIn w p n xs) :
    Calls Try.prog 11 #[.slice p n c] w fun e w' => e = .returned (.tuple #[.int .i64 (getL xs).1, .int .i64 (getL xs).2]) ∧ w = w' := by
  have HX := Lib.hid hx
  have HB := Lib.hid hb
  have HI := Lib.hid hi
  clear hx hb hi
  obtain ⟨m, hmm, hm9, HM⟩ : ∃ m : Nat, m ≤ n ∧ m ≤ 9 ∧ Hid (m = min n 9) := ⟨_, Nat.min_le_left _ _, Nat.min_le_right _ _, Lib.hid rfl⟩
  have e1 : min (n : Int) 9 = (m : Int) := by rw [HM.out]; omega
  have e2 : max (m : Int) 0 = (m : Int) := by omega
  go_enter Try.func11, Try.ntmps11
  go_wp2_with fail
  clear e1 e2
  go_loop [4, 13] (fun x i => ∃ (k y : Nat), k ≤ m ∧ i = .int .i64 k ∧ x = .int .i64 y ∧ Hid (Ahead xs k y)) (fun _ i => m - (intOf i).toNat)
  case atStart => exact ⟨0, 0, by omega, rfl, rfl, Lib.hid (ahead_zero xs)⟩
  case round =>
    obtain ⟨k, y, hk, rfl, rfl, HY⟩ := hrel
    by_cases hlt : k < m
    · obtain ⟨b, o, rfl, hc⟩ := HI.out.at (by omega)
      have g := hc k (by omega)
      clear hc
      have hbb := allB_getD HB.out k
      obtain ⟨q, hq⟩ : ∃ q, xs.getD k 0 = q := ⟨_, rfl⟩
      rw [hq] at g hbb
      have HQ := Lib.hid hq
      clear hq
      have HE := Lib.hid (or_seven y k q hbb.1 hbb.2 (by omega) HY.out.2.1)
      by_cases h128 : 128 ≤ q
      · go_wp2_with fail
        refine ⟨⟨k + 1, _, by omega, by go_num, by rw [HE.out], Lib.hid ?_⟩, by simp [intOf]; omega⟩
        have h := ahead_succ HY.out HB.out (by rw [HX.out]; omega) (by omega) (by rw [HQ.out]; exact h128)
        rw [HQ.out] at h
        rw [show q.toNat % 128 = q.toNat - 128 by omega]
        exact h
      · by_cases h0 : q = 0
        · by_cases hk0 : 0 < k
          · subst h0
            go_wp2_with fail
            go_ret2
            refine ⟨?_, rfl⟩
            rw [ahead_none HY.out (by rw [HX.out]; omega) (by omega) HQ.out hk0]
            rfl
          · subst h0
            go_wp2_with fail
            go_ret2
            refine ⟨?_, rfl⟩
            have h := ahead_end HY.out (by rw [HX.out]; omega) (by omega) (by rw [HQ.out]; omega) (by omega)
            rw [HQ.out] at h
            rw [h]
            exact ret_int2 HE.out (by omega)
        · have c0 : (q == 0) = false := by simpa using h0
          go_wp2_with fail
          go_ret2
          refine ⟨?_, rfl⟩
          have h := ahead_end HY.out (by rw [HX.out]; omega) (by omega) (by rw [HQ.out]; omega) (by rw [HQ.out]; omega)
          rw [HQ.out] at h
          rw [h]
          exact ret_int2 (by rw [HE.out, show q.toNat % 128 = q.toNat by omega]) (by omega)
    · go_wp2_with fail
      go_ret2
      refine ⟨?_, rfl⟩
      rw [ahead_over HY.out (by have := HM.out; have := HX.out; omega)]
      rfl
end Go.Proofs.Ytanbggegbhcfhaa

/-
  Contracts: what crc.eightBits, More, Sum, Parts and lowestFirst answer. Conditions: as each states.
-/
import Derived.Test.YtbfbbfcfijgakaaChecked
import Derived.Test.YtbfbbfcfijgakaaM
import Derived.Test.YtbfbbfcfijgakaaShelf
import Derived.WalkKit
import Derived.WalkMore
import Derived.ScopeJumps
import Derived.Lib.Hide
import Derived.BigQuiet
import Derived.Deep.QuietTactic
import Derived.RegionTactic
import Derived.Laws.BitsAllLaws
namespace Go.Proofs.Ytbfbbfcfijgakaa
open Go.RowKit

theorem ret_int {k : IntKind} {a b : Int} (h : a = b) : Ending.returned (.int k a) = .returned (.int k b) := by rw [h]
theorem ret_bool {a b : Bool} (h : a = b) : Ending.returned (.bool a) = .returned (.bool b) := by rw [h]

/-- A step of the register, as the walk has it. -/
def stepZ (n : Int) : Int := if n % 2 = 1 then bits .xor .u32 (n / 2) 3988292384 else n / 2
theorem stepZ_nat (x : BitVec 32) : stepZ (x.toNat : Int) = ((step x).toNat : Int) := by
  unfold stepZ step
  have hx := x.isLt
  have e : x.getLsbD 0 = decide (x.toNat % 2 = 1) := by
    rw [BitVec.getLsbD, Nat.testBit_zero]
  have e2 : (x >>> 1).toNat = x.toNat / 2 := by
    rw [BitVec.toNat_ushiftRight, Nat.shiftRight_eq_div_pow]
  by_cases h : x.toNat % 2 = 1
  · rw [if_pos (by omega), e, if_pos (by simpa using h)]
    rw [show (x.toNat : Int) / 2 = ((x.toNat / 2 : Nat) : Int) by omega, show (3988292384 : Int) = ((3988292384 : Nat) : Int) by rfl, u32_xor_nat _ _ (by omega) (by omega), BitVec.toNat_xor, e2]
    rfl
  · rw [if_neg (by omega), e, if_neg (by simpa using h), e2]
    omega
def stepZN : Nat → Int → Int
  | 0, x => x
  | n + 1, x => stepZ (stepZN n x)
theorem stepN_succ' (n : Nat) (x : BitVec 32) : stepN (n + 1) x = step (stepN n x) := by
  rw [Nat.add_comm, stepN_add]; rfl
theorem stepZN_nat (n : Nat) (x : BitVec 32) : stepZN n (x.toNat : Int) = ((stepN n x).toNat : Int) := by
  induction n with
  | zero => rfl
  | succ n ih => simp only [stepZN]; rw [ih, stepZ_nat, stepN_succ']

theorem wrap_range32 (n : Int) : 0 ≤ IntKind.u32.wrap n ∧ IntKind.u32.wrap n < 4294967296 := by rw [IntKind.wrap_u32']; omega
theorem stepZ_range (n : Int) (h : 0 ≤ n ∧ n < 4294967296) : 0 ≤ stepZ n ∧ stepZ n < 4294967296 := by
  unfold stepZ
  split
  · exact wrap_range32 _
  · omega
theorem stepZ_odd (n : Int) (h : n % 2 = 1) : stepZ n = bits .xor .u32 (n / 2) 3988292384 := if_pos h
theorem stepZ_even (n : Int) (h : ¬ n % 2 = 1) : stepZ n = n / 2 := if_neg h

set_option maxHeartbeats 1600000 in
theorem eight_int (n : Int) (hn : 0 ≤ n ∧ n < 4294967296) (w : World) : Calls Try.prog 21 #[.int .u32 n] w fun e w' => e = .returned (.int .u32 (stepZN 8 n)) ∧ w = w' := by
  obtain ⟨h0, h1⟩ := hn
  go_enter Try.func21, Try.ntmps21
  go_wp2
  refine wp_scope_jumps 0 (fun a' w' => w = w' ∧ ∃ (k : Nat) (y : Int) (u4 u5 u6 u7 u8 u9 u10 u11 u12 u13 u14 u15 u16 : Value), a' = { tmps := #[.int .u32 y, undef, .int .u32 0, .int .i64 k, u4, u5, u6, u7, u8, u9, u10, u11, u12, u13, u14, u15, u16, undef], defers := [] } ∧ 1 ≤ k ∧ k < 8 ∧ (0 ≤ y ∧ y < 4294967296) ∧ Hid (y = stepZN k n)) (fun a' _ => 8 - (intOf (a'.tmps.getD 3 undef)).toNat) rfl ?_ ?_
  · go_wp2
    go_step3
    by_cases hodd : n % 2 = 1
    · have c0 : (n % 2 == 1) = true := by simpa using hodd
      have HS := Lib.hid (stepZ_odd n hodd)
      have hr := stepZ_range n ⟨h0, h1⟩
      clear hodd
      go_wp2
      go_step3
      rw [HS.out] at hr
      exact ⟨rfl, rfl, 1, _, _, _, _, _, _, _, _, _, _, _, _, _, _, rfl, by omega, by omega, hr, Lib.hid HS.out.symm⟩
    · have c0 : (n % 2 == 1) = false := by simpa using hodd
      have HS := Lib.hid (stepZ_even n hodd)
      have hr := stepZ_range n ⟨h0, h1⟩
      clear hodd
      go_wp2
      go_step3
      rw [HS.out] at hr
      exact ⟨rfl, rfl, 1, _, _, _, _, _, _, _, _, _, _, _, _, _, _, rfl, by omega, by omega, hr, Lib.hid HS.out.symm⟩
  · rintro a' w' ⟨rfl, k, y, u4, u5, u6, u7, u8, u9, u10, u11, u12, u13, u14, u15, u16, rfl, hk1, hk8, ⟨hy0, hy1⟩, HY⟩
    by_cases h7 : k < 7
    · have c1 : decide ((k : Int) + 1 < 8) = true := by simp; omega
      by_cases hodd : y % 2 = 1
      · have c0 : (y % 2 == 1) = true := by simpa using hodd
        have HS := Lib.hid (stepZ_odd y hodd)
        have hr := stepZ_range y ⟨hy0, hy1⟩
        clear hodd
        go_wp2
        go_step3
        rw [HS.out] at hr
        refine ⟨rfl, ⟨rfl, k + 1, _, _, _, _, _, _, _, _, _, _, _, _, _, _, rfl, by omega, by omega, hr, Lib.hid (by rw [← HS.out, HY.out]; rfl)⟩, ?_⟩
        simp [intOf]
        omega
      · have c0 : (y % 2 == 1) = false := by simpa using hodd
        have HS := Lib.hid (stepZ_even y hodd)
        have hr := stepZ_range y ⟨hy0, hy1⟩
        clear hodd
        go_wp2
        go_step3
        rw [HS.out] at hr
        refine ⟨rfl, ⟨rfl, k + 1, _, _, _, _, _, _, _, _, _, _, _, _, _, _, rfl, by omega, by omega, hr, Lib.hid (by rw [← HS.out, HY.out]; rfl)⟩, ?_⟩
        simp [intOf]
        omega
    · obtain rfl : k = 7 := by omega
      by_cases hodd : y % 2 = 1
      · have c0 : (y % 2 == 1) = true := by simpa using hodd
        have HS := Lib.hid (stepZ_odd y hodd)
        clear hodd
        go_wp2
        simp only [Exit.jump]
        go_ret
        exact ⟨ret_int (by rw [← HS.out, HY.out]; rfl), rfl⟩
      · have c0 : (y % 2 == 1) = false := by simpa using hodd
        have HS := Lib.hid (stepZ_even y hodd)
        clear hodd
        go_wp2
        simp only [Exit.jump]
        go_ret
        exact ⟨ret_int (by rw [← HS.out, HY.out]; rfl), rfl⟩

theorem eight_any (x : BitVec 32) (w : World) : Calls Try.prog 21 #[.int .u32 x.toNat] w fun e w' => e = .returned (.int .u32 (stepN 8 x).toNat) ∧ w = w' := by
  have h := x.isLt
  refine (eight_int (x.toNat : Int) (by omega) w).mono ?_
  rintro e w' ⟨rfl, rfl⟩
  exact ⟨ret_int (stepZN_nat 8 x), rfl⟩

theorem xor_nat (x y : BitVec 32) : bits .xor .u32 (x.toNat : Int) (y.toNat : Int) = ((x ^^^ y).toNat : Int) := by
  have hx := x.isLt
  have hy := y.isLt
  rw [u32_xor_nat _ _ (by omega) (by omega), BitVec.toNat_xor]
theorem xor_ones_nat (x : BitVec 32) : bits .xor .u32 (x.toNat : Int) 4294967295 = ((x ^^^ ones).toNat : Int) := xor_nat x ones
theorem xor_V (x : BitVec 32) (c : Int) (h0 : 0 ≤ c) (h1 : c < 256) : bits .xor .u32 (x.toNat : Int) c = ((x ^^^ V c).toNat : Int) := by
  rw [← xor_nat]
  congr 1
  unfold V
  rw [BitVec.toNat_ofInt]
  omega
theorem run_succ (x : BitVec 32) (xs : List Int) (k : Nat) (h : k < xs.length) : run x ((xs.take (k + 1)).map V) = stepN 8 (run x ((xs.take k).map V) ^^^ V (xs.getD k 0)) := by
  rw [List.take_succ_eq_append_getElem h, List.map_append, run_append, List.getD_eq_getElem?_getD, List.getElem?_eq_getElem h]
  rfl
theorem allB_getD {xs : List Int} (h : AllB xs) (k : Nat) : 0 ≤ xs.getD k 0 ∧ xs.getD k 0 < 256 := by
  rw [List.getD_eq_getElem?_getD]
  rcases Nat.lt_or_ge k xs.length with hk | hk
  · rw [List.getElem?_eq_getElem hk]
    exact h _ (List.getElem_mem hk)
  · rw [List.getElem?_eq_none hk]
    decide

set_option maxHeartbeats 800000 in
theorem more_any (s : BitVec 32) (p : Option Addr) (n c : Nat) (xs : List Int) (w : World) (hx : xs.length = n) (hm : n ≤ 9223372036854775807) (hb : AllB xs) (hi : Lib.BytesIn w p n xs) :
    Calls Try.prog 13 #[.int .u32 s.toNat, .slice p n c] w fun e w' => e = .returned (.int .u32 (moreB s xs).toNat) ∧ w = w' := by
  have HX := Lib.hid hx
  have HB := Lib.hid hb
  have HI := Lib.hid hi
  clear hx hb hi
  obtain ⟨S, HS0, E⟩ : ∃ S : BitVec 32, Hid (S = s ^^^ ones) ∧ Hid (bits .xor .u32 (s.toNat : Int) 4294967295 = (S.toNat : Int)) := ⟨_, Lib.hid rfl, Lib.hid (xor_ones_nat s)⟩
  go_enter Try.func13, Try.ntmps13
  go_wp2_with fail
  rw [E.out]
  go_loop [5, 12] (fun x i => ∃ (k : Nat) (y : BitVec 32), k ≤ n ∧ i = .int .i64 k ∧ x = .int .u32 y.toNat ∧ Hid (y = run S ((xs.take k).map V))) (fun _ i => n - (intOf i).toNat)
  case atStart => exact ⟨0, _, by omega, rfl, rfl, Lib.hid rfl⟩
  case round =>
    obtain ⟨k, y, hk, rfl, rfl, HY⟩ := hrel
    by_cases hlt : k < n
    · obtain ⟨b, o, rfl, hc⟩ := HI.out.at (by omega)
      have g := hc k hlt
      clear hc
      have hbb := allB_getD HB.out k
      have HS := Lib.hid (run_succ S xs k (by rw [HX.out]; exact hlt))
      generalize xs.getD k 0 = q at *
      obtain ⟨Y, HY1, E2⟩ : ∃ Y : BitVec 32, Hid (Y = y ^^^ V q) ∧ Hid (bits .xor .u32 (y.toNat : Int) q = (Y.toNat : Int)) := ⟨_, Lib.hid rfl, Lib.hid (xor_V y q hbb.1 hbb.2)⟩
      go_wp2_with fail
      rw [E2.out]
      refine (eight_any _ _).mono ?_
      rintro e w1 ⟨rfl, rfl⟩
      go_wp2_with fail
      go_round
      case rel => exact ⟨k + 1, _, by omega, by go_num, rfl, Lib.hid (by rw [HS.out, ← HY.out, HY1.out])⟩
      case measure => simp [intOf]; omega
    · have E3 := Lib.hid (xor_ones_nat y)
      go_wp2_with fail
      go_ret
      exact ⟨ret_int (by rw [E3.out, HY.out, HS0.out, List.take_of_length_le (by rw [HX.out]; omega)]; rfl), rfl⟩

theorem sum_any (p : Option Addr) (n c : Nat) (xs : List Int) (w : World) (hx : xs.length = n) (hm : n ≤ 9223372036854775807) (hb : AllB xs) (hi : Lib.BytesIn w p n xs) :
    Calls Try.prog 12 #[.slice p n c] w fun e w' => e = .returned (.int .u32 (sumB xs).toNat) ∧ w = w' := by
  have H := Lib.hid (more_any 0#32 p n c xs w hx hm hb hi)
  clear hx hb hi
  go_enter Try.func12, Try.ntmps12
  go_wp2_with fail
  refine H.out.mono ?_
  rintro e w1 ⟨rfl, rfl⟩
  go_wp2_with fail
  go_ret
  exact ⟨rfl, rfl⟩

set_option maxHeartbeats 800000 in
theorem low_any (s : BitVec 32) (w : World) : Calls Try.prog 23 #[.int .u32 s.toNat] w fun e w' =>
    e = .returned (.slice (some ⟨w.heap.size, 0, none⟩) 4 4) ∧ w' = w.alloc (.cells ((tailL s).map (Value.int .u8)).toArray 5) := by
  have hs := s.isLt
  obtain ⟨n, hn⟩ : ∃ n : Int, (s.toNat : Int) = n := ⟨_, rfl⟩
  have h0 : 0 ≤ n ∧ n < 4294967296 := by omega
  have HT := Lib.hid (show tailL s = [n % 256, n / 256 % 256, n / 65536 % 256, n / 16777216] by rw [← show n / 16777216 % 256 = n / 16777216 by omega, ← hn]; rfl)
  rw [hn]
  clear hs hn
  go_enter Try.func23, Try.ntmps23
  go_wp2_with fail
  go_ret
  rw [HT.out]
  exact ⟨rfl, rfl⟩
end Go.Proofs.Ytbfbbfcfijgakaa

/-
  The walk of chicanelaw03.CrcLinear: it returns true, whatever bytes. Conditions: as each states.
-/
import Derived.Test.YtbfbbfcfijgakaaSwaps
import Derived.Deep.OwnRows
namespace Go.Proofs.Ytbfbbfcfijgakaa.crcLinear
open Go.RowKit crcOwn crcSwaps

theorem make_any (n : Nat) (hn : n ≤ 500) : ∀ w : World, (Instr.makeSlice 22 (.int .i64 (n : Int)) (.int .i64 (n : Int))).run Try.prog w = .ok (.slice (some ⟨w.heap.size, 0, none⟩) n n) (w.alloc (.cells (madeCells #[.int .u8 0] n) 5)) :=
  fun w => run_make_row' 22 5 (.int .u8 0) 1 Try.underlying22 info5 rfl .i64 .i64 n (by omega) (by omega) w

theorem made_owns (w : World) (n : Nat) (hn : n ≤ 500) (base : Nat) (hb : base ≤ w.heap.size) : (w.alloc (.cells (madeCells #[.int .u8 0] n) 5)).ownsRow base 5 1 (.slice (some ⟨w.heap.size, 0, none⟩) n n) n ((List.replicate n (0 : Int)).map (Value.int .u8)) := by
  refine ⟨by simp, Or.inr ⟨w.heap.size, n, _, rfl, hb, heap_alloc_new w _, Nat.le_refl _, by unfold maxLen; omega, by rw [size_madeCells]; omega, ?_⟩⟩
  rw [toList_madeCells_one]
  simp
theorem two_made (w : World) (n : Nat) (hn : n ≤ 500) (w1 : World) (h : ((w.alloc (.cells (madeCells #[.int .u8 0] n) 5)).alloc (.cells (madeCells #[.int .u8 0] n) 5)).drew = w1) :
    Below w.heap.size w w1 ∧ w1.ownsRow w.heap.size 5 1 (.slice (some ⟨w.heap.size, 0, none⟩) n n) n ((List.replicate n (0 : Int)).map (Value.int .u8)) ∧ w1.ownsRow w.heap.size 5 1 (.slice (some ⟨w.heap.size + 1, 0, none⟩) n n) n ((List.replicate n (0 : Int)).map (Value.int .u8)) := by
  subst h
  refine ⟨(((Below.refl _ _).alloc (Nat.le_refl _) _).alloc (by simp) _).drew, ((made_owns w n hn w.heap.size (Nat.le_refl _)).alloc _).drew, ?_⟩
  have h := made_owns (w.alloc (.cells (madeCells #[.int .u8 0] n) 5)) n hn w.heap.size (by simp)
  rw [show (w.alloc (.cells (madeCells #[.int .u8 0] n) 5)).heap.size = w.heap.size + 1 by simp] at h
  exact h.drew
/-- What the loop has laid behind k rounds. -/
def mixK (xs ys : List Int) (n k : Nat) : List Int := (List.zipWith (fun a b => bits .xor .u8 a b) xs ys).take k ++ List.replicate (n - k) 0
theorem mixK_zero (xs ys : List Int) (n : Nat) : mixK xs ys n 0 = List.replicate n 0 := by simp [mixK]
theorem mixK_succ (xs ys : List Int) (n k : Nat) (hx : xs.length = n) (hy : ys.length = n) (hk : k < n) :
    mixK xs ys n (k + 1) = (mixK xs ys n k).set k (bits .xor .u8 (xs.getD k 0) (ys.getD k 0)) := by
  unfold mixK
  have hl : k < (List.zipWith (fun a b => bits .xor .u8 a b) xs ys).length := by simp; omega
  rw [List.take_succ_eq_append_getElem hl, show n - k = (n - (k + 1)) + 1 by omega, List.replicate_succ]
  have h1 : ((List.zipWith (fun a b => bits .xor .u8 a b) xs ys).take k).length = k := by rw [List.length_take]; omega
  rw [List.set_append_right _ _ (by omega), h1, Nat.sub_self, List.set_cons_zero, List.append_assoc]
  congr 1
  rw [List.getElem_zipWith, List.getD_eq_getElem?_getD, List.getD_eq_getElem?_getD, List.getElem?_eq_getElem (by omega), List.getElem?_eq_getElem (by omega)]
  rfl
theorem mixK_length (xs ys : List Int) (n k : Nat) (hx : xs.length = n) (hy : ys.length = n) (hk : k ≤ n) : (mixK xs ys n k).length = n := by
  simp [mixK]
  omega
theorem mixK_all (xs ys : List Int) (n : Nat) (hx : xs.length = n) (hy : ys.length = n) : mixK xs ys n n = List.zipWith (fun a b => bits .xor .u8 a b) xs ys := by
  simp only [mixK, Nat.sub_self, List.replicate_zero, List.append_nil]
  rw [List.take_of_length_le (by simp; omega)]
theorem xor8 (a b : Int) (ha : 0 ≤ a ∧ a < 256) (hb : 0 ≤ b ∧ b < 256) : (0 ≤ bits .xor .u8 a b ∧ bits .xor .u8 a b < 256) ∧ V (bits .xor .u8 a b) = V a ^^^ V b := by
  obtain ⟨a, rfl⟩ := Int.eq_ofNat_of_zero_le ha.1
  obtain ⟨b, rfl⟩ := Int.eq_ofNat_of_zero_le hb.1
  have hx : a ^^^ b < 2 ^ 8 := Nat.xor_lt_two_pow (by omega) (by omega)
  rw [u8_xor_nat a b (by omega) (by omega), V_nat, V_nat, V_nat]
  refine ⟨by omega, ?_⟩
  apply BitVec.eq_of_toNat_eq
  rw [BitVec.toNat_xor, BitVec.toNat_ofNat, BitVec.toNat_ofNat, BitVec.toNat_ofNat, Nat.mod_eq_of_lt (show a < 2 ^ 32 by omega), Nat.mod_eq_of_lt (show b < 2 ^ 32 by omega), Nat.mod_eq_of_lt (by omega)]
theorem zip_all (xs ys : List Int) (hx : AllB xs) (hy : AllB ys) : AllB (List.zipWith (fun a b => bits .xor .u8 a b) xs ys) ∧ (List.zipWith (fun a b => bits .xor .u8 a b) xs ys).map V = List.zipWith (· ^^^ ·) (xs.map V) (ys.map V) := by
  induction xs generalizing ys with
  | nil => exact ⟨(fun x hx => by cases hx), rfl⟩
  | cons a r ih =>
    cases ys with
    | nil => exact ⟨(fun x hx => by cases hx), rfl⟩
    | cons b s =>
      obtain ⟨h1, h2⟩ := ih s (fun x h => hx x (by simp [h])) (fun x h => hy x (by simp [h]))
      obtain ⟨h3, h4⟩ := xor8 a b (hx a (by simp)) (hy b (by simp))
      refine ⟨?_, ?_⟩
      · intro x hx'
        simp only [List.zipWith_cons_cons, List.mem_cons] at hx'
        rcases hx' with rfl | hx'
        · exact h3
        · exact h1 x hx'
      · simp only [List.zipWith_cons_cons, List.map_cons]
        rw [h2, h4]
theorem zip_zeros (l : List (BitVec 32)) : List.zipWith (· ^^^ ·) l ((List.replicate l.length (0 : Int)).map V) = l := by
  induction l with
  | nil => rfl
  | cons a r ih =>
    simp only [List.length_cons, List.replicate_succ, List.map_cons, List.zipWith_cons_cons]
    rw [ih, show V 0 = 0#32 from rfl, BitVec.xor_zero]
theorem linear (xs ys : List Int) (n : Nat) (hx : xs.length = n) (hy : ys.length = n) (hbx : AllB xs) (hby : AllB ys) :
    bits .xor .u32 ((sumB xs).toNat : Int) ((sumB ys).toNat : Int) = bits .xor .u32 ((sumB (mixK xs ys n n)).toNat : Int) ((sumB (List.replicate n 0)).toNat : Int) := by
  rw [xor_nat, xor_nat, mixK_all xs ys n hx hy]
  obtain ⟨_, h2⟩ := zip_all xs ys hbx hby
  rw [sumB_linear xs ys (List.zipWith (fun a b => bits .xor .u8 a b) xs ys) (List.replicate n 0) (by omega) (by simp; omega)]
  rw [h2]
  have e : n = (List.zipWith (· ^^^ ·) (xs.map V) (ys.map V)).length := by simp; omega
  conv => rhs; rw [e]
  rw [zip_zeros]

set_option maxHeartbeats 4000000 in
theorem walk_main (p q : Option Addr) (n c d : Nat) (xs ys : List Int) (w : World) (hx : xs.length = n) (hb : AllB xs) (hi : Lib.BytesIn w p n xs) (hy : ys.length = n) (hby : AllB ys) (hj : Lib.BytesIn w q n ys) (hn : n ≤ 500) :
    Calls Try.prog 8 #[.slice p n c, .slice q n d] w fun e w' => e = .returned (.bool true) ∧ Below w.heap.size w w' := by
  have HX := Lib.hid hx
  have HA := Lib.hid hb
  have HI := Lib.hid hi
  have HY := Lib.hid hy
  have HAY := Lib.hid hby
  have HJ := Lib.hid hj
  have HLIN := Lib.hid (linear xs ys n hx hy hb hby)
  have HZIP := Lib.hid (zip_all xs ys hb hby)
  have hn63 : n ≤ 9223372036854775807 := by omega
  have d0 : ((n : Int) != (n : Int)) = false := by simp
  have d1 : decide ((500 : Int) < (n : Int)) = false := by simp; omega
  have hmk := make_any n hn
  clear hx hb hi hy hby hj
  go_enter Try.func8, Try.ntmps8
  go_wp2_with fail
  go_region
  all_goals
    clear hmk
    obtain ⟨w1, hw1⟩ : ∃ w1, ((w.alloc (.cells (madeCells #[.int .u8 0] n) 5)).alloc (.cells (madeCells #[.int .u8 0] n) 5)).drew = w1 := ⟨_, rfl⟩
    rw [hw1]
    have HTM := Lib.hid (two_made w n hn w1 hw1)
    clear hw1
    obtain ⟨h0, hh0⟩ : ∃ h0, w.heap.size = h0 := ⟨_, rfl⟩
    obtain ⟨h1, hh1⟩ : ∃ h1, h0 + 1 = h1 := ⟨_, rfl⟩
    have HB1 := Lib.hid HTM.out.1
    have HO0 := Lib.hid HTM.out.2.1
    have HO1 := Lib.hid HTM.out.2.2
    clear HTM
    rw [hh0] at HO0 HO1
    rw [hh1] at HO1
    rw [hh0, hh1]
    have hne : h0 ≠ h1 := by omega
    have hle0 : w.heap.size ≤ h0 := by omega
    have hle1 : w.heap.size ≤ h1 := by omega
    clear hh0 hh1
  · have HN := Lib.hid (own_in HO1.out)
    have HO := HO0
    clear HO0 HO1
    go_wp2_with fail
    go_loopw [27] (fun i w' => ∃ (k : Nat), k ≤ n ∧ i = .int .i64 k ∧ Hid (w'.ownsRow h0 5 1 (.slice (some ⟨h0, 0, none⟩) n n) n ((mixK xs ys n k).map (Value.int .u8))) ∧ Hid (Below w.heap.size w w') ∧ Hid (Lib.BytesIn w' (some ⟨h1, 0, none⟩) n (List.replicate n 0))) (fun i _ => n - (intOf i).toNat)
    case atStart => exact ⟨0, by omega, rfl, Lib.hid (by rw [mixK_zero]; exact HO.out), HB1, HN⟩
    case round =>
      clear HO HN HB1
      obtain ⟨k, hk, rfl, HO, HB, HN⟩ := hrel
      by_cases hlt : k < n
      · obtain ⟨b1, o1, rfl, hc1⟩ := HI.out.at (by omega)
        obtain ⟨b2, o2, rfl, hc2⟩ := HJ.out.at (by omega)
        have q1 := keep_below HB.out (hc1 k hlt)
        have q2 := keep_below HB.out (hc2 k hlt)
        have q3 : _ = some (Value.int .u8 ((mixK xs ys n k).getD k 0)) := (HO.out.cellAt k (by omega)).trans (getD_map8 _ _ (by rw [mixK_length xs ys n k HX.out HY.out hk]; exact hlt))
        have q4 := HO.out.frozenAt k
        have HM := Lib.hid (mixK_succ xs ys n k HX.out HY.out hlt)
        clear hc1 hc2
        generalize xs.getD k 0 = x at *
        generalize ys.getD k 0 = y at *
        generalize (mixK xs ys n k).getD k 0 = z at *
        go_wp2_with fail
        go_region
        clear q1 q2 q3 q4
        go_wp2_with fail
        go_roundw
        case rel => exact ⟨k + 1, by omega, by go_num, Lib.hid (by rw [HM.out, List.map_set]; exact (HO.out.stored k _).1.drew), Lib.hid ((HB.out.setCell hle0 _).drew), Lib.hid (fun h => by
          obtain ⟨b, o, e, hc⟩ := HN.out.at h
          refine ⟨b, o, e, fun i hi => ?_⟩
          cases e
          exact (World.cell?_setCell_other _ _ _ _ (fun e => by have e2 := congrArg Addr.block e; dsimp only at e2; omega)).trans (hc i hi))⟩
        case measure => simp [intOf]; omega
      · obtain rfl : k = n := by omega
        have HC := Lib.hid (own_in HO.out)
        clear HO
        go_wp2_with fail
        refine (alive_any _).mono ?_
        rintro e w3 ⟨rfl, hb3⟩
        have HB3 := Lib.hid hb3
        clear hb3
        have HB4 := Lib.hid (seqB HB.out HB3.out)
        go_wp2_with fail
        refine (sum_any _ _ _ xs _ HX.out hn63 HA.out (bytes_on HI.out HB4.out)).mono ?_
        rintro e w4 ⟨rfl, rfl⟩
        go_wp2_with fail
        refine (sum_any _ _ _ ys _ HY.out hn63 HAY.out (bytes_on HJ.out HB4.out)).mono ?_
        rintro e w4 ⟨rfl, rfl⟩
        go_wp2_with fail
        refine (sum_any _ _ _ (mixK xs ys k k) _ (mixK_length xs ys k k HX.out HY.out (Nat.le_refl _)) hn63 (by rw [mixK_all xs ys k HX.out HY.out]; exact HZIP.out.1) (bytes_on HC.out HB3.out)).mono ?_
        rintro e w4 ⟨rfl, rfl⟩
        go_wp2_with fail
        refine (sum_any _ _ _ (List.replicate k 0) _ (by simp) hn63 (fun x hx => by rw [List.eq_of_mem_replicate hx]; decide) (bytes_on HN.out HB3.out)).mono ?_
        rintro e w4 ⟨rfl, rfl⟩
        have eq : (bits .xor .u32 ((sumB xs).toNat : Int) ((sumB ys).toNat : Int) == bits .xor .u32 ((sumB (mixK xs ys k k)).toNat : Int) ((sumB (List.replicate k 0)).toNat : Int)) = true := by rw [HLIN.out]; simp
        go_wp2_with fail
        go_ret
        exact ⟨rfl, HB4.out⟩
  · have HN := Lib.hid (own_in HO0.out)
    have HO := HO1
    clear HO0 HO1
    go_wp2_with fail
    go_loopw [27] (fun i w' => ∃ (k : Nat), k ≤ n ∧ i = .int .i64 k ∧ Hid (w'.ownsRow h0 5 1 (.slice (some ⟨h1, 0, none⟩) n n) n ((mixK xs ys n k).map (Value.int .u8))) ∧ Hid (Below w.heap.size w w') ∧ Hid (Lib.BytesIn w' (some ⟨h0, 0, none⟩) n (List.replicate n 0))) (fun i _ => n - (intOf i).toNat)
    case atStart => exact ⟨0, by omega, rfl, Lib.hid (by rw [mixK_zero]; exact HO.out), HB1, HN⟩
    case round =>
      clear HO HN HB1
      obtain ⟨k, hk, rfl, HO, HB, HN⟩ := hrel
      by_cases hlt : k < n
      · obtain ⟨b1, o1, rfl, hc1⟩ := HI.out.at (by omega)
        obtain ⟨b2, o2, rfl, hc2⟩ := HJ.out.at (by omega)
        have q1 := keep_below HB.out (hc1 k hlt)
        have q2 := keep_below HB.out (hc2 k hlt)
        have q3 : _ = some (Value.int .u8 ((mixK xs ys n k).getD k 0)) := (HO.out.cellAt k (by omega)).trans (getD_map8 _ _ (by rw [mixK_length xs ys n k HX.out HY.out hk]; exact hlt))
        have q4 := HO.out.frozenAt k
        have HM := Lib.hid (mixK_succ xs ys n k HX.out HY.out hlt)
        clear hc1 hc2
        generalize xs.getD k 0 = x at *
        generalize ys.getD k 0 = y at *
        generalize (mixK xs ys n k).getD k 0 = z at *
        go_wp2_with fail
        go_region
        clear q1 q2 q3 q4
        go_wp2_with fail
        go_roundw
        case rel => exact ⟨k + 1, by omega, by go_num, Lib.hid (by rw [HM.out, List.map_set]; exact (HO.out.stored k _).1.drew), Lib.hid ((HB.out.setCell hle1 _).drew), Lib.hid (fun h => by
          obtain ⟨b, o, e, hc⟩ := HN.out.at h
          refine ⟨b, o, e, fun i hi => ?_⟩
          cases e
          exact (World.cell?_setCell_other _ _ _ _ (fun e => by have e2 := congrArg Addr.block e; dsimp only at e2; omega)).trans (hc i hi))⟩
        case measure => simp [intOf]; omega
      · obtain rfl : k = n := by omega
        have HC := Lib.hid (own_in HO.out)
        clear HO
        go_wp2_with fail
        refine (alive_any _).mono ?_
        rintro e w3 ⟨rfl, hb3⟩
        have HB3 := Lib.hid hb3
        clear hb3
        have HB4 := Lib.hid (seqB HB.out HB3.out)
        go_wp2_with fail
        refine (sum_any _ _ _ xs _ HX.out hn63 HA.out (bytes_on HI.out HB4.out)).mono ?_
        rintro e w4 ⟨rfl, rfl⟩
        go_wp2_with fail
        refine (sum_any _ _ _ ys _ HY.out hn63 HAY.out (bytes_on HJ.out HB4.out)).mono ?_
        rintro e w4 ⟨rfl, rfl⟩
        go_wp2_with fail
        refine (sum_any _ _ _ (mixK xs ys k k) _ (mixK_length xs ys k k HX.out HY.out (Nat.le_refl _)) hn63 (by rw [mixK_all xs ys k HX.out HY.out]; exact HZIP.out.1) (bytes_on HC.out HB3.out)).mono ?_
        rintro e w4 ⟨rfl, rfl⟩
        go_wp2_with fail
        refine (sum_any _ _ _ (List.replicate k 0) _ (by simp) hn63 (fun x hx => by rw [List.eq_of_mem_replicate hx]; decide) (bytes_on HN.out HB3.out)).mono ?_
        rintro e w4 ⟨rfl, rfl⟩
        have eq : (bits .xor .u32 ((sumB xs).toNat : Int) ((sumB ys).toNat : Int) == bits .xor .u32 ((sumB (mixK xs ys k k)).toNat : Int) ((sumB (List.replicate k 0)).toNat : Int)) = true := by rw [HLIN.out]; simp
        go_wp2_with fail
        go_ret
        exact ⟨rfl, HB4.out⟩
set_option maxHeartbeats 2000000 in
theorem early0 (p q : Option Addr) (n m c d : Nat) (w : World) (h0 : n ≠ m) :
    Calls Try.prog 8 #[.slice p n c, .slice q m d] w fun e w' => e = .returned (.bool true) ∧ Below w.heap.size w w' := by
  have d0 : ((n : Int) != (m : Int)) = true := by simp; omega
  have d0' : (n != m) = true := by simp; omega
  clear h0
  go_enter Try.func8, Try.ntmps8
  go_wp2_with fail
  refine (alive_any _).mono ?_
  rintro e w5 ⟨rfl, hb5⟩
  have HB5 := Lib.hid hb5
  clear hb5
  go_wp2_with fail
  go_ret
  exact ⟨rfl, HB5.out⟩
set_option maxHeartbeats 2000000 in
theorem early1 (p q : Option Addr) (n c d : Nat) (w : World) (h0 : 500 < n) :
    Calls Try.prog 8 #[.slice p n c, .slice q n d] w fun e w' => e = .returned (.bool true) ∧ Below w.heap.size w w' := by
  have d0 : ((n : Int) != (n : Int)) = false := by simp
  have d1 : decide ((500 : Int) < (n : Int)) = true := by simp; omega
  go_enter Try.func8, Try.ntmps8
  go_wp2_with fail
  refine (alive_any _).mono ?_
  rintro e w5 ⟨rfl, hb5⟩
  have HB5 := Lib.hid hb5
  clear hb5
  go_wp2_with fail
  go_ret
  exact ⟨rfl, HB5.out⟩

theorem walk (p q : Option Addr) (n m c d : Nat) (xs ys : List Int) (w : World) (hx : xs.length = n) (hb : AllB xs) (hi : Lib.BytesIn w p n xs) (hy : ys.length = m) (hby : AllB ys) (hj : Lib.BytesIn w q m ys) :
    Calls Try.prog 8 #[.slice p n c, .slice q m d] w fun e w' => e = .returned (.bool true) ∧ Below w.heap.size w w' := by
  by_cases h0 : n = m
  · subst h0
    by_cases h1 : 500 < n
    · exact early1 p q n c d w h1
    · exact walk_main p q n c d xs ys w hx hb hi hy hby hj (by omega)
  · exact early0 p q n m c d w h0
end Go.Proofs.Ytbfbbfcfijgakaa.crcLinear

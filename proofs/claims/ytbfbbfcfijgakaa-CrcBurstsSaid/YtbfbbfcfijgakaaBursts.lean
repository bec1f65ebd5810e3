/-
  The walk of chicanelaw03.CrcBursts: it returns true, whatever bytes, place and bits. Conditions: as each states.
-/
import Derived.Test.YtbfbbfcfijgakaaW4
import Derived.Laws.OwnMore
import Derived.BigRegion
namespace Go.Proofs.Ytbfbbfcfijgakaa.crcBursts
open Go.RowKit

theorem bit_at (t : BitVec 32) (k : Nat) : bits .and .u32 ((t.toNat : Int) / 2 ^ k) 1 = if t.getLsbD k then 1 else 0 := by
  have ht := t.isLt
  have hle : t.toNat / 2 ^ k ≤ t.toNat := Nat.div_le_self _ _
  have e : (t.toNat : Int) / 2 ^ k = ((t.toNat / 2 ^ k : Nat) : Int) := by simp
  rw [e, show (1 : Int) = ((1 : Nat) : Int) from rfl, u32_and_nat _ _ (by omega) (by omega), Nat.and_one_is_mod, BitVec.getLsbD, Nat.testBit_eq_decide_div_mod_eq]
  by_cases h : t.toNat / 2 ^ k % 2 = 1
  · simp [h]
  · have : t.toNat / 2 ^ k % 2 = 0 := by omega
    simp [this]
/-- A bit of a byte that is turned. -/
theorem flip (y : Int) (hy : 0 ≤ y ∧ y < 256) (r : Nat) (hr : r < 8) : (0 ≤ bits .xor .u8 y (2 ^ r % 256) ∧ bits .xor .u8 y (2 ^ r % 256) < 256) ∧ V (bits .xor .u8 y (2 ^ r % 256)) = V y ^^^ 1#32 <<< r := by
  obtain ⟨a, rfl⟩ := Int.eq_ofNat_of_zero_le hy.1
  have h2 : (2 : Nat) ^ r < 2 ^ 8 := Nat.pow_lt_pow_right (by omega) hr
  have e : (2 : Int) ^ r % 256 = ((2 ^ r : Nat) : Int) := by
    have : ((2 ^ r : Nat) : Int) = (2 : Int) ^ r := by simp
    rw [← this]
    generalize (2 : Nat) ^ r = q at h2
    omega
  have hx : a ^^^ 2 ^ r < 2 ^ 8 := Nat.xor_lt_two_pow (by omega) h2
  rw [e, u8_xor_nat a (2 ^ r) (by omega) (by omega), V_nat, V_nat]
  refine ⟨by omega, ?_⟩
  apply BitVec.eq_of_toNat_eq
  have e1 : (1#32 <<< r).toNat = 2 ^ r := by
    rw [BitVec.toNat_shiftLeft, Nat.shiftLeft_eq]
    simp only [BitVec.toNat_ofNat, Nat.reducePow, Nat.one_mod]
    omega
  rw [BitVec.toNat_xor, BitVec.toNat_ofNat, BitVec.toNat_ofNat, e1, Nat.mod_eq_of_lt (show a < 2 ^ 32 by omega), Nat.mod_eq_of_lt (by omega)]
theorem turn_round (t : BitVec 32) (ys : List Int) (N A k j r M : Nat) (z : Int) (hy : AllB ys) (hl : ys.length = N) (hz : z = bits .xor .u8 (ys[j]?.getD 0) (2 ^ r % 256)) (hj : j < N) (hr : r < 8) (hjr : A + k = 8 * j + r) (hM : M + A = 8 * N) (hk : k < 32)
    (hrun : run ones (ys.map V) = rest ^^^ stepN M (turned t M k)) (ht : turned t M (k + 1) = turned t M k ^^^ 1#32 <<< k) :
    (AllB (ys.set j z) ∧ (ys.set j z).length = N) ∧ run ones ((ys.set j z).map V) = rest ^^^ stepN M (turned t M (k + 1)) := by
  have hjl : j < ys.length := by omega
  have e0 : ys[j]?.getD 0 = ys[j] := by rw [List.getElem?_eq_getElem hjl]; rfl
  rw [e0] at hz
  obtain ⟨h1, h2⟩ := flip ys[j] (hy _ (List.getElem_mem hjl)) r hr
  rw [← hz] at h1 h2
  refine ⟨⟨?_, by simpa using hl⟩, ?_⟩
  · intro x hx
    rcases List.mem_or_eq_of_mem_set hx with hx | rfl
    · exact hy x hx
    · exact h1
  · have hl' : (ys.map V).length = N := by simpa using hl
    have e := run_turn (ys.map V) A k j r M (by omega) hr hjr (by omega) hk
    rw [List.map_set, h2, show V ys[j] = (ys.map V)[j]'(by omega) by simp, e, hrun, ht, stepN_xor, BitVec.xor_assoc]
theorem own_row {w : World} {base n : Nat} {v : Value} {zs : List Value} (h : w.ownsRow base 5 1 v n zs) (hn : 1 ≤ n) :
    ∃ g cap, v = .slice (some ⟨g, 0, none⟩) n cap ∧ base ≤ g ∧ n ≤ cap := by
  obtain ⟨hl, ⟨_, h0⟩ | ⟨g, cap, cur, rfl, hb, hh, h1, h2, h3, h4⟩⟩ := h
  · omega
  · exact ⟨g, cap, rfl, hb, h1⟩

set_option maxHeartbeats 2000000 in
theorem walk_main (p : Option Addr) (n c A : Nat) (t : BitVec 32) (xs : List Int) (w : World) (hx : xs.length = n) (hb : AllB xs) (hpc : p = none → c = 0) (hi : Lib.BytesIn w p n xs)
    (hn : n ≤ 2000) (hA : A < 8 * (n + 4)) (ht : t ≠ 0#32) :
    Calls Try.prog 5 #[.slice p n c, .int .i64 A, .int .u32 t.toNat] w fun e w' => e = .returned (.bool true) ∧ Below w.heap.size w w' := by
  have HX := Lib.hid hx
  have HA := Lib.hid hb
  have HP := Lib.hid hpc
  have HI := Lib.hid hi
  have d0 : decide ((2000 : Int) < (n : Int)) = false := by simp; omega
  have d1 : decide ((A : Int) < 0) = false := by simp
  have d2 : decide (8 * ((n : Int) + 4) ≤ (A : Int)) = false := by simp; omega
  have d3 : ((t.toNat : Int) == 0) = false := by
    simp only [beq_eq_false_iff_ne, ne_eq]
    intro h
    exact ht (BitVec.eq_of_toNat_eq (by simp; omega))
  clear hx hb hpc hi ht
  go_enter Try.func5, Try.ntmps5
  go_wp2_with fail
  refine (seal_any p n c xs _ HX.out (by omega) HA.out HP.out HI.out).mono ?_
  rintro e w1 ⟨v, rfl, hown, hb1⟩
  obtain ⟨q, c1, rfl, hl1, hi1, hpc1, hnc1, _⟩ := own_bytes hown
  obtain ⟨w1a, hw1a⟩ : ∃ w1a, w1a = w1.alloc (.cells #[] 5) := ⟨_, rfl⟩
  have HB1 := Lib.hid hb1
  have HB1a := Lib.hid (show Below w1.heap.size w1 w1a by rw [hw1a]; exact (Below.refl _ _).alloc (Nat.le_refl _) _)
  have O0 : w1a.ownsRow w1.heap.size 5 1 (.slice (some ⟨w1.heap.size, 0, none⟩) 0 0) 0 [] := by
    rw [hw1a]
    exact ⟨rfl, Or.inr ⟨w1.heap.size, 0, #[], rfl, Nat.le_refl _, heap_alloc_new w1 _, by omega, by simp [maxLen], rfl, rfl⟩⟩
  obtain ⟨v', w2, hrun, hown2, hg2, hne2⟩ := app_bytes O0 HB1a.out.size hl1 hpc1 (bytes_on hi1 HB1a.out) (by omega) 22
  have HR := Lib.hid hrun
  have HB2 := Lib.hid (HB1a.out.grown hg2 HB1a.out.size (fun j hj => (O0.lt j hj).1))
  have HO2 := Lib.hid hown2
  rw [hw1a] at HR
  clear hb1 O0 hrun hown2 hg2 hne2 hw1a HB1a hown hl1 hi1 hpc1 hnc1
  go_wp2_with (at_builtin; refine Lib.wpList_append_run _ rfl _ _ _ _ rfl _ _ rfl rfl _ _ HR.out ?_)
  simp only [Nat.zero_add, List.nil_append] at HO2
  obtain ⟨g, cap, rfl, hg1, hgc⟩ := own_row HO2.out (by omega)
  have hwg : w.heap.size ≤ g := Nat.le_trans HB1.out.size hg1
  obtain ⟨M, hM⟩ : ∃ M : Nat, M + A = 8 * (n + 4) := ⟨8 * (n + 4) - A, by omega⟩
  have HM := Lib.hid hM
  go_loopw [9, 37] (fun s i w' => ∃ (k : Nat) (sm : Bool) (ys : List Int), k ≤ 32 ∧ i = .int .i64 k ∧ s = .bool sm ∧ Hid (w'.ownsRow w1.heap.size 5 1 (.slice (some ⟨g, 0, none⟩) (n + 4) cap) (n + 4) (ys.map (Value.int .u8))) ∧ Hid (Below w.heap.size w w') ∧ Hid (AllB ys ∧ ys.length = n + 4) ∧ Hid (run ones (ys.map V) = rest ^^^ stepN M (turned t M k)) ∧ Hid (sm = decide (turned t M k = 0#32))) (fun _ i _ => 32 - (intOf i).toNat)
  case atStart => exact ⟨0, true, sealL xs, by omega, rfl, rfl, HO2, Lib.hid (seqB HB1.out HB2.out), Lib.hid ⟨allB_seal xs HA.out, by rw [length_seal, HX.out]⟩, Lib.hid (by rw [run_seal]; simp [turned, stepN_zero]), Lib.hid (by simp [turned])⟩
  case round =>
    obtain ⟨k, sm, ys, hk, rfl, rfl, HO, HB, HY, HRun, HS⟩ := hrel
    by_cases hlt : k < 32
    · by_cases hbit : t.getLsbD k = true
      · have c0 : (bits .and .u32 ((t.toNat : Int) / 2 ^ k) 1 == 1) = true := by rw [bit_at, hbit]; rfl
        by_cases hkM : k < M
        · have c1 : decide ((k : Int) < 8 * ((n : Int) + 4) - (A : Int)) = true := by simp; omega
          have HT := Lib.hid (turned_yes t M k (by simp [hbit, hkM]))
          have HT2 := Lib.hid (turned_some t M k hlt (by simp [hbit, hkM]))
          obtain ⟨j, r, hjr, hr⟩ : ∃ j r : Nat, A + k = 8 * j + r ∧ r < 8 := ⟨(A + k) / 8, (A + k) % 8, by omega, by omega⟩
          have HJ := Lib.hid hjr
          have hj : j < n + 4 := by omega
          have T1 : ((A : Int) + (k : Int)) / 8 = (j : Int) := by omega
          have T2 : ((A : Int) + (k : Int)) % 8 = (r : Int) := by omega
          have g0 : _ = some (Value.int .u8 (ys.getD j 0)) := (HO.out.cellAt j (by omega)).trans (by
            rw [List.getElem?_map, List.getD_eq_getElem?_getD, List.getElem?_eq_getElem (by rw [HY.out.2]; exact hj)]; rfl)
          have g1 := HO.out.frozenAt j
          clear hbit hjr hM
          go_wp2_with fail
          go_region
          generalize hz : bits .xor .u8 (ys[j]?.getD 0) (2 ^ r % 256) = z
          have HZ := Lib.hid hz
          clear hz T1 T2 g0 g1
          have HTR := Lib.hid (turn_round t ys (n + 4) A k j r M z HY.out.1 HY.out.2 HZ.out.symm hj hr HJ.out HM.out hlt HRun.out HT.out)
          go_wp2_with fail
          go_roundw
          case rel => exact ⟨k + 1, false, ys.set j z, by omega, by go_num, rfl, Lib.hid (by rw [List.map_set]; exact (HO.out.stored j (.int .u8 z)).1.drew), Lib.hid ((HB.out.setCell hwg _).drew), Lib.hid HTR.out.1, Lib.hid HTR.out.2, Lib.hid (by simp [HT2.out])⟩
          case measure => simp [intOf]; omega
        · have c1 : decide ((k : Int) < 8 * ((n : Int) + 4) - (A : Int)) = false := by simp; omega
          have HT := Lib.hid (turned_no t M k (by simp [hkM]))
          clear hbit hM
          go_wp2_with fail
          go_roundw
          case rel => exact ⟨k + 1, sm, ys, by omega, by go_num, rfl, HO, HB, HY, Lib.hid (by rw [HT.out]; exact HRun.out), Lib.hid (by rw [HT.out]; exact HS.out)⟩
          case measure => simp [intOf]; omega
      · have hbit' : t.getLsbD k = false := by simpa using hbit
        have c0 : (bits .and .u32 ((t.toNat : Int) / 2 ^ k) 1 == 1) = false := by rw [bit_at, hbit']; rfl
        have HT := Lib.hid (turned_no t M k (by simp [hbit']))
        clear hbit hbit' hM
        go_wp2_with fail
        go_roundw
        case rel => exact ⟨k + 1, sm, ys, by omega, by go_num, rfl, HO, HB, HY, Lib.hid (by rw [HT.out]; exact HRun.out), Lib.hid (by rw [HT.out]; exact HS.out)⟩
        case measure => simp [intOf]; omega
    · obtain rfl : k = 32 := by omega
      have HI2 := Lib.hid (show Lib.BytesIn _ (some ⟨g, 0, none⟩) (n + 4) ys by
        obtain ⟨p', c', e, _, h, _⟩ := own_bytes HO.out
        cases e
        exact h)
      have HOK := Lib.hid (show okB ys = sm by rw [HS.out]; exact okB_turned ys (by rw [HY.out.2]; omega) HY.out.1 t M HRun.out)
      clear hM HO HRun HS HM
      go_wp2_with fail
      cases sm
      · have hsm : okB ys = false := HOK.out.trans rfl
        refine (open_no g 0 n cap ys _ HY.out.2 hgc (by omega) HY.out.1 HI2.out hsm).mono ?_
        rintro e w4 ⟨rfl, hb4⟩
        have HB4 := Lib.hid hb4
        clear hb4 hsm
        go_wp2_with fail
        refine (alive_any _).mono ?_
        rintro e w5 ⟨rfl, hb5⟩
        have HB5 := Lib.hid hb5
        clear hb5
        go_wp2_with fail
        go_ret
        exact ⟨rfl, seqB HB.out (seqB HB4.out HB5.out)⟩
      · have hsm : okB ys = true := HOK.out.trans rfl
        refine (open_yes g 0 n cap ys _ HY.out.2 hgc (by omega) HY.out.1 HI2.out hsm).mono ?_
        rintro e w4 ⟨v4, rfl, _, hb4⟩
        have HB4 := Lib.hid hb4
        clear hb4 hsm
        go_wp2_with fail
        refine (alive_any _).mono ?_
        rintro e w5 ⟨rfl, hb5⟩
        have HB5 := Lib.hid hb5
        clear hb5
        go_wp2_with fail
        go_ret
        exact ⟨rfl, seqB HB.out (seqB HB4.out HB5.out)⟩

set_option maxHeartbeats 2000000 in
theorem early0 (p : Option Addr) (n c : Nat) (A : Int) (T : Int) (xs : List Int) (w : World) (hx : xs.length = n) (hb : AllB xs) (hpc : p = none → c = 0) (hi : Lib.BytesIn w p n xs) (hbig : n + 4 ≤ 140737488355328)
    (h0 : 2000 < n) :
    Calls Try.prog 5 #[.slice p n c, .int .i64 A, .int .u32 T] w fun e w' => e = .returned (.bool true) ∧ Below w.heap.size w w' := by
  have HX := Lib.hid hx
  have HA := Lib.hid hb
  have HP := Lib.hid hpc
  have HI := Lib.hid hi
  have d0 : decide ((2000 : Int) < (n : Int)) = true := by simp; omega
  clear hx hb hpc hi
  go_enter Try.func5, Try.ntmps5
  go_wp2_with fail
  refine (seal_any p n c xs _ HX.out hbig HA.out HP.out HI.out).mono ?_
  rintro e w1 ⟨v, rfl, hown, hb1⟩
  obtain ⟨q, c1, rfl, hl1, hi1, hpc1, hnc1, _⟩ := own_bytes hown
  have HB1 := Lib.hid hb1
  clear hb1 hown hl1 hi1 hpc1 hnc1
  go_wp2_with fail
  refine (alive_any _).mono ?_
  rintro e w5 ⟨rfl, hb5⟩
  have HB5 := Lib.hid hb5
  clear hb5
  go_wp2_with fail
  go_ret
  exact ⟨rfl, seqB HB1.out HB5.out⟩

set_option maxHeartbeats 2000000 in
theorem early1 (p : Option Addr) (n c : Nat) (A : Int) (T : Int) (xs : List Int) (w : World) (hx : xs.length = n) (hb : AllB xs) (hpc : p = none → c = 0) (hi : Lib.BytesIn w p n xs) (hbig : n + 4 ≤ 140737488355328)
    (h0 : n ≤ 2000) (h1 : A < 0) :
    Calls Try.prog 5 #[.slice p n c, .int .i64 A, .int .u32 T] w fun e w' => e = .returned (.bool true) ∧ Below w.heap.size w w' := by
  have HX := Lib.hid hx
  have HA := Lib.hid hb
  have HP := Lib.hid hpc
  have HI := Lib.hid hi
  have d0 : decide ((2000 : Int) < (n : Int)) = false := by simp; omega
  have d1 : decide (A < 0) = true := by simp; omega
  clear hx hb hpc hi
  go_enter Try.func5, Try.ntmps5
  go_wp2_with fail
  refine (seal_any p n c xs _ HX.out hbig HA.out HP.out HI.out).mono ?_
  rintro e w1 ⟨v, rfl, hown, hb1⟩
  obtain ⟨q, c1, rfl, hl1, hi1, hpc1, hnc1, _⟩ := own_bytes hown
  have HB1 := Lib.hid hb1
  clear hb1 hown hl1 hi1 hpc1 hnc1
  go_wp2_with fail
  refine (alive_any _).mono ?_
  rintro e w5 ⟨rfl, hb5⟩
  have HB5 := Lib.hid hb5
  clear hb5
  go_wp2_with fail
  go_ret
  exact ⟨rfl, seqB HB1.out HB5.out⟩

set_option maxHeartbeats 2000000 in
theorem early2 (p : Option Addr) (n c : Nat) (A : Int) (T : Int) (xs : List Int) (w : World) (hx : xs.length = n) (hb : AllB xs) (hpc : p = none → c = 0) (hi : Lib.BytesIn w p n xs) (hbig : n + 4 ≤ 140737488355328)
    (h0 : n ≤ 2000) (h1 : 0 ≤ A) (h2 : 8 * ((n : Int) + 4) ≤ A) :
    Calls Try.prog 5 #[.slice p n c, .int .i64 A, .int .u32 T] w fun e w' => e = .returned (.bool true) ∧ Below w.heap.size w w' := by
  have HX := Lib.hid hx
  have HA := Lib.hid hb
  have HP := Lib.hid hpc
  have HI := Lib.hid hi
  have d0 : decide ((2000 : Int) < (n : Int)) = false := by simp; omega
  have d1 : decide (A < 0) = false := by simp; omega
  have d2 : decide (8 * ((n : Int) + 4) ≤ A) = true := by simp; omega
  clear hx hb hpc hi
  go_enter Try.func5, Try.ntmps5
  go_wp2_with fail
  refine (seal_any p n c xs _ HX.out hbig HA.out HP.out HI.out).mono ?_
  rintro e w1 ⟨v, rfl, hown, hb1⟩
  obtain ⟨q, c1, rfl, hl1, hi1, hpc1, hnc1, _⟩ := own_bytes hown
  have HB1 := Lib.hid hb1
  clear hb1 hown hl1 hi1 hpc1 hnc1
  go_wp2_with fail
  refine (alive_any _).mono ?_
  rintro e w5 ⟨rfl, hb5⟩
  have HB5 := Lib.hid hb5
  clear hb5
  go_wp2_with fail
  go_ret
  exact ⟨rfl, seqB HB1.out HB5.out⟩

set_option maxHeartbeats 2000000 in
theorem early3 (p : Option Addr) (n c : Nat) (A : Int) (T : Int) (xs : List Int) (w : World) (hx : xs.length = n) (hb : AllB xs) (hpc : p = none → c = 0) (hi : Lib.BytesIn w p n xs) (hbig : n + 4 ≤ 140737488355328)
    (h0 : n ≤ 2000) (h1 : 0 ≤ A) (h2 : A < 8 * ((n : Int) + 4)) (h3 : T = 0) :
    Calls Try.prog 5 #[.slice p n c, .int .i64 A, .int .u32 T] w fun e w' => e = .returned (.bool true) ∧ Below w.heap.size w w' := by
  have HX := Lib.hid hx
  have HA := Lib.hid hb
  have HP := Lib.hid hpc
  have HI := Lib.hid hi
  have d0 : decide ((2000 : Int) < (n : Int)) = false := by simp; omega
  have d1 : decide (A < 0) = false := by simp; omega
  have d2 : decide (8 * ((n : Int) + 4) ≤ A) = false := by simp; omega
  have d3 : (T == 0) = true := by simp; omega
  clear h3
  clear hx hb hpc hi
  go_enter Try.func5, Try.ntmps5
  go_wp2_with fail
  refine (seal_any p n c xs _ HX.out hbig HA.out HP.out HI.out).mono ?_
  rintro e w1 ⟨v, rfl, hown, hb1⟩
  obtain ⟨q, c1, rfl, hl1, hi1, hpc1, hnc1, _⟩ := own_bytes hown
  have HB1 := Lib.hid hb1
  clear hb1 hown hl1 hi1 hpc1 hnc1
  go_wp2_with fail
  refine (alive_any _).mono ?_
  rintro e w5 ⟨rfl, hb5⟩
  have HB5 := Lib.hid hb5
  clear hb5
  go_wp2_with fail
  go_ret
  exact ⟨rfl, seqB HB1.out HB5.out⟩


theorem walk (p : Option Addr) (n c : Nat) (A T : Int) (xs : List Int) (w : World) (hx : xs.length = n) (hb : AllB xs) (hpc : p = none → c = 0) (hi : Lib.BytesIn w p n xs) (hbig : n + 4 ≤ 140737488355328) (hT : 0 ≤ T ∧ T < 4294967296) :
    Calls Try.prog 5 #[.slice p n c, .int .i64 A, .int .u32 T] w fun e w' => e = .returned (.bool true) ∧ Below w.heap.size w w' := by
  by_cases h0 : 2000 < n
  · exact early0 p n c A T xs w hx hb hpc hi hbig h0
  by_cases h1 : A < 0
  · exact early1 p n c A T xs w hx hb hpc hi hbig (by omega) h1
  by_cases h2 : 8 * ((n : Int) + 4) ≤ A
  · exact early2 p n c A T xs w hx hb hpc hi hbig (by omega) (by omega) h2
  by_cases h3 : T = 0
  · exact early3 p n c A T xs w hx hb hpc hi hbig (by omega) (by omega) (by omega) h3
  obtain ⟨a, rfl⟩ := Int.eq_ofNat_of_zero_le (show 0 ≤ A by omega)
  obtain ⟨t, rfl⟩ := Int.eq_ofNat_of_zero_le hT.1
  have e : (BitVec.ofNat 32 t).toNat = t := by rw [BitVec.toNat_ofNat]; omega
  have h := walk_main p n c a (BitVec.ofNat 32 t) xs w hx hb hpc hi (by omega) (by omega) (fun h => h3 (by rw [h] at e; simp at e; omega))
  rw [e] at h
  exact h
end Go.Proofs.Ytbfbbfcfijgakaa.crcBursts

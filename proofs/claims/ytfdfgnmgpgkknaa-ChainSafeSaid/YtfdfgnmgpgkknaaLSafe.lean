/-
  The walk of chicanelaw11.ChainSafe: it returns true, whatever calls. Conditions: as each states.
-/
import Derived.Test.YtfdfgnmgpgkknaaMY30
namespace Go.Proofs.Ytfdfgnmgpgkknaa
open Go.RowKit
namespace chainSafe
set_option maxRecDepth 100000 in
set_option maxHeartbeats 8000000 in
theorem no_new (room : Int) (h : newE noTox room ≠ 0) (p : Option Addr) (m d : Nat) (w : World) :
    Calls Try.prog 5 #[.int .i64 room, .slice p m d] w fun e w' => e = .returned (.bool true) ∧ Below w.heap.size w w' := by
  have HN := Lib.hid (new_c_no (room := room) (now := 0) h w)
  have hE : (newE noTox room != 0) = true := by simpa using h
  generalize newE noTox room = E at *
  clear h
  go_enter Try.func5, Try.ntmps5
  go_wp2_with fail
  refine HN.out.mono ?_
  rintro e w2 ⟨rfl, hb⟩
  have HB2 := Lib.hid hb
  clear hb
  go_wp2_with fail
  refine (valive_any _).mono ?_
  rintro e w3 ⟨rfl, hb⟩
  have HB3 := Lib.hid (HB2.out.trans (hb.mono HB2.out.size))
  clear hb
  go_wp2_with fail
  go_ret
  exact ⟨rfl, HB3.out⟩
set_option maxRecDepth 100000 in
set_option maxHeartbeats 16000000 in
theorem walk (room : Int) (p : Option Addr) (m d : Nat) (os : List COp) (w : World) (hx : os.length = m) (hmd : m ≤ d) (hd : d ≤ 9223372036854775807) (hz : ∀ o ∈ os, o.s.size ≤ 140737488351232 ∧ o.t.s.size ≤ 140737488351232) (hj : OpsIn w p m os) :
    Calls Try.prog 5 #[.int .i64 room, .slice p m d] w fun e w' => e = .returned (.bool true) ∧ Below w.heap.size w w' := by
  by_cases hE : newE noTox room ≠ 0
  · exact no_new room hE p m d w
  have hE0 : newE noTox room = 0 := by omega
  have HX := Lib.hid hx
  have HJ := Lib.hid hj
  have HZ := Lib.hid hz
  have HN := Lib.hid (new_v (now := 0) hE0 w)
  clear hE hx hz hj hE0
  go_enter Try.func5, Try.ntmps5
  go_wp2_with fail
  refine HN.out.mono ?_
  rintro e w2 ⟨g, U, rfl, h1⟩
  have HA2 := Lib.hid h1
  clear h1 HN
  go_wp2_with fail
  refine (few_any p m d os _ HX.out hmd hd HZ.out (ops_on HJ.out HA2.out.2.2)).mono ?_
  rintro e w3 ⟨b, rfl, hf, hb⟩
  have HA3 := Lib.hid (HA2.out.on hb)
  have HF := Lib.hid hf
  clear hb hf HA2 hmd hd
  cases b with
  | false =>
    clear HF
    go_wp2_with fail
    refine (valive_any _).mono ?_
    rintro e w5 ⟨rfl, hb5⟩
    have HB5 := Lib.hid (HA3.out.on hb5).2.2
    clear hb5
    go_wp2_with fail
    go_ret
    exact ⟨rfl, HB5.out⟩
  | true =>
    obtain ⟨hm, htt⟩ := HF.out rfl
    have HT := Lib.hid htt
    clear HF htt
    go_wp2_with fail
    go_loopw [28] (fun i wr => ∃ (k : Nat) (c : Ch) (U' : Own), k ≤ m ∧ i = .int .i64 k ∧ Hid (CHd w wr U' g c (total (os.take k))) ∧ Hid (c.Safe) ∧ Hid (c.lost = 0 ∧ c.state ≠ 2)) (fun i _ => m - (intOf i).toNat)
    case atStart => exact ⟨0, _, U, by omega, rfl, HA3, Lib.hid (Ch.safe_new room 0), Lib.hid ⟨rfl, by show (0 : Int) ≠ 2; decide⟩⟩
    case round =>
      clear HA3
      obtain ⟨k, c, U1, hk, rfl, HA, HSF, HE⟩ := hrel
      by_cases hlt : k < m
      · obtain ⟨b, o, rfl, hcell⟩ := ops_on HJ.out HA.out.2.2 (by omega)
        obtain ⟨c0, c1, c2, c3, c4, c5, c6, c7, c8, c9, cA⟩ := hcell k hlt
        have hzk := HZ.out _ (at_of os k (by rw [HX.out]; exact hlt))
        have HTK := Lib.hid (total_step os k m HX.out hlt _ rfl)
        have HTL := Lib.hid (Nat.le_trans (total_take_le os (k + 1)) HT.out)
        generalize os.getD k noOp = op at *
        have HZK := Lib.hid hzk
        have hlen := HA.out.len
        have hsafe := Ch.safe_do HSF.out op hlen.1 HE.out.2
        obtain ⟨kd, T, N, b0, tx, sd⟩ := op
        obtain ⟨us, uk, uu, uo, ua, ub⟩ := tx
        simp only at c0 c1 c2 c3 c4 c5 c6 c7 c8 c9 cA HTK HZK hsafe
        rw [← Nat.add_assoc] at c1 c2 c3 c4 c5 c6 c7 c8 c9 cA
        have hal : Below wr.heap.size wr (wr.alloc (.cells #[.int .i64 kd, .int .i64 T, .int .i64 N, .string b0, .string us, .int .i64 uk, .bool uu, .int .i64 uo, .int .i64 ua, .int .i64 ub, .int .u64 sd] 33)) := (Below.refl _ _).alloc (Nat.le_refl _) _
        have HA4 := Lib.hid (HA.out.on hal)
        have HO4 := Lib.hid (heap_alloc_new wr (.cells #[.int .i64 kd, .int .i64 T, .int .i64 N, .string b0, .string us, .int .i64 uk, .bool uu, .int .i64 uo, .int .i64 ua, .int .i64 ub, .int .u64 sd] 33))
        have HU4 := Lib.hid (HA.out.new (Nat.le_refl _))
        clear hal HA hcell hzk hlen
        obtain ⟨c1', hc1⟩ : ∃ c1', c.doN ⟨kd, T, N, b0, ⟨us, uk, uu, uo, ua, ub⟩, sd⟩ = c1' := ⟨_, rfl⟩
        obtain ⟨a1, ha1⟩ : ∃ a1, c.doA ⟨kd, T, N, b0, ⟨us, uk, uu, uo, ua, ub⟩, sd⟩ = a1 := ⟨_, rfl⟩
        rw [hc1] at hsafe
        have HSD := Lib.hid hsafe
        clear hsafe
        have HSK := Lib.hid (HA4.out.mono (M' := total (os.take (k + 1))) (by rw [HTK.out]; omega) (by have := HTL.out; omega))
        go_upto_region 7 with fail
        generalize wr.alloc (.cells #[.int .i64 kd, .int .i64 T, .int .i64 N, .string b0, .string us, .int .i64 uk, .bool uu, .int .i64 uo, .int .i64 ua, .int .i64 ub, .int .u64 sd] 33) = w4 at *
        generalize wr.heap.size = go at *
        clear c0 c1 c2 c3 c4 c5 c6 c7 c8 c9 cA
        have o0 := cell_of_row w4 go 0 _ _ _ HO4.out
        have o1 := cell_of_row w4 go 1 _ _ _ HO4.out
        have o2 := cell_of_row w4 go 2 _ _ _ HO4.out
        have o3 := cell_of_row w4 go 3 _ _ _ HO4.out
        have o4 := cell_of_row w4 go 4 _ _ _ HO4.out
        have o5 := cell_of_row w4 go 5 _ _ _ HO4.out
        have o6 := cell_of_row w4 go 6 _ _ _ HO4.out
        have o7 := cell_of_row w4 go 7 _ _ _ HO4.out
        have o8 := cell_of_row w4 go 8 _ _ _ HO4.out
        have o9 := cell_of_row w4 go 9 _ _ _ HO4.out
        have oA := cell_of_row w4 go 10 _ _ _ HO4.out
        have HDs := Lib.hid (vdoes_any (M' := total (os.take (k + 1))) HA4.out ⟨kd, T, N, b0, ⟨us, uk, uu, uo, ua, ub⟩, sd⟩ (by show us.size ≤ maxLen; have := HTK.out; have := HTL.out; unfold maxLen; omega) (by rw [HTK.out]; exact Nat.le_refl _) (by have := HTL.out; omega))
        rw [hc1, ha1] at HDs
        unfold vopV at HDs
        simp only at HDs
        clear hc1 ha1
        by_cases hk2 : kd = 2
        · subst hk2
          clear HDs HSD
          go_wp2_with fail
          go_roundw
          case rel => exact ⟨k + 1, c, U1, by omega, by go_num, HSK, HSF, HE⟩
          case measure => simp [intOf]; omega
        have dk2 : (kd == 2) = false := by simpa using hk2
        by_cases hk5 : kd = 5
        · by_cases hu1 : 4 ≤ uk
          · by_cases hu2 : uk ≤ 6
            · subst hk5
              have du1 : decide (4 ≤ uk) = true := decide_eq_true hu1
              have du2 : decide (uk ≤ 6) = true := decide_eq_true hu2
              clear HDs HSD hk2
              go_wp2_with fail
              go_roundw
              case rel => exact ⟨k + 1, c, U1, by omega, by go_num, HSK, HSF, HE⟩
              case measure => simp [intOf]; omega
            have HNX := Lib.hid (HSD.out hk2 (fun _ => ⟨by show uk ≠ 4; omega, by show uk ≠ 5; omega, by show uk ≠ 6; omega⟩))
            subst hk5
            have du1 : decide (4 ≤ uk) = true := decide_eq_true hu1
            have du2 : decide (uk ≤ 6) = false := decide_eq_false hu2
            clear HSD hk2
            go_wp2_with fail
            refine HDs.out.mono ?_
            rintro e w6 ⟨rfl, U6, h6, _⟩
            have HA7 := Lib.hid h6
            have HV1 := Lib.hid (lost_v HA7.out.1)
            have HV2 := Lib.hid (state_v HA7.out.1)
            obtain ⟨q1, q2, q3⟩ := HNX.out
            have HS4 := Lib.hid q1
            have HE4 := Lib.hid (show c1'.lost = 0 ∧ c1'.state ≠ 2 from ⟨q2.trans HE.out.1, q3⟩)
            rw [HE4.out.1] at HV1
            obtain ⟨X, hX⟩ : ∃ X, c1'.state = X := ⟨_, rfl⟩
            rw [hX] at HV2 q3
            have dX : (X == 2) = false := by simpa using q3
            clear h6 HDs q1 q2 q3 hX HNX HA4 HO4 HU4 o0 o1 o2 o3 o4 o5 o6 o7 o8 o9 oA
            go_wp2_with fail
            refine HV1.out.mono ?_
            rintro e w8 ⟨rfl, rfl⟩
            go_wp2_with fail
            refine HV2.out.mono ?_
            rintro e w8 ⟨rfl, rfl⟩
            clear HV1 HV2
            go_wp2_with fail
            go_roundw
            case rel => exact ⟨k + 1, c1', U6, by omega, by go_num, HA7, HS4, HE4⟩
            case measure => simp [intOf]; omega
          · have HNX := Lib.hid (HSD.out hk2 (fun _ => ⟨by show uk ≠ 4; omega, by show uk ≠ 5; omega, by show uk ≠ 6; omega⟩))
            subst hk5
            have du1 : decide (4 ≤ uk) = false := decide_eq_false hu1
            clear HSD hk2
            go_wp2_with fail
            refine HDs.out.mono ?_
            rintro e w6 ⟨rfl, U6, h6, _⟩
            have HA7 := Lib.hid h6
            have HV1 := Lib.hid (lost_v HA7.out.1)
            have HV2 := Lib.hid (state_v HA7.out.1)
            obtain ⟨q1, q2, q3⟩ := HNX.out
            have HS4 := Lib.hid q1
            have HE4 := Lib.hid (show c1'.lost = 0 ∧ c1'.state ≠ 2 from ⟨q2.trans HE.out.1, q3⟩)
            rw [HE4.out.1] at HV1
            obtain ⟨X, hX⟩ : ∃ X, c1'.state = X := ⟨_, rfl⟩
            rw [hX] at HV2 q3
            have dX : (X == 2) = false := by simpa using q3
            clear h6 HDs q1 q2 q3 hX HNX HA4 HO4 HU4 o0 o1 o2 o3 o4 o5 o6 o7 o8 o9 oA
            go_wp2_with fail
            refine HV1.out.mono ?_
            rintro e w8 ⟨rfl, rfl⟩
            go_wp2_with fail
            refine HV2.out.mono ?_
            rintro e w8 ⟨rfl, rfl⟩
            clear HV1 HV2
            go_wp2_with fail
            go_roundw
            case rel => exact ⟨k + 1, c1', U6, by omega, by go_num, HA7, HS4, HE4⟩
            case measure => simp [intOf]; omega
        · have HNX := Lib.hid (HSD.out hk2 (fun e => absurd e hk5))
          have dk5 : (kd == 5) = false := by simpa using hk5
          clear HSD hk2 hk5
          go_wp2_with fail
          refine HDs.out.mono ?_
          rintro e w6 ⟨rfl, U6, h6, _⟩
          have HA7 := Lib.hid h6
          have HV1 := Lib.hid (lost_v HA7.out.1)
          have HV2 := Lib.hid (state_v HA7.out.1)
          obtain ⟨q1, q2, q3⟩ := HNX.out
          have HS4 := Lib.hid q1
          have HE4 := Lib.hid (show c1'.lost = 0 ∧ c1'.state ≠ 2 from ⟨q2.trans HE.out.1, q3⟩)
          rw [HE4.out.1] at HV1
          obtain ⟨X, hX⟩ : ∃ X, c1'.state = X := ⟨_, rfl⟩
          rw [hX] at HV2 q3
          have dX : (X == 2) = false := by simpa using q3
          clear h6 HDs q1 q2 q3 hX HNX HA4 HO4 HU4 o0 o1 o2 o3 o4 o5 o6 o7 o8 o9 oA
          go_wp2_with fail
          refine HV1.out.mono ?_
          rintro e w8 ⟨rfl, rfl⟩
          go_wp2_with fail
          refine HV2.out.mono ?_
          rintro e w8 ⟨rfl, rfl⟩
          clear HV1 HV2
          go_wp2_with fail
          go_roundw
          case rel => exact ⟨k + 1, c1', U6, by omega, by go_num, HA7, HS4, HE4⟩
          case measure => simp [intOf]; omega
      · obtain rfl : k = m := by omega
        clear hlt hk
        go_wp2_with fail
        refine (valive_any _).mono ?_
        rintro e w5 ⟨rfl, hb5⟩
        have HB5 := Lib.hid (HA.out.on hb5).2.2
        clear hb5 HA
        go_wp2_with fail
        go_ret
        exact ⟨rfl, HB5.out⟩
end chainSafe
end Go.Proofs.Ytfdfgnmgpgkknaa

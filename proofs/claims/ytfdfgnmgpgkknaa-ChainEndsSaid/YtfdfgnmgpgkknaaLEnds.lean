/-
  The walk of chicanelaw11.ChainEnds: it returns true, whatever calls. Conditions: as each states.
-/
import Derived.Test.YtfdfgnmgpgkknaaMY30
namespace Go.Proofs.Ytfdfgnmgpgkknaa
open Go.RowKit
namespace chainEnds
set_option maxRecDepth 100000 in
set_option maxHeartbeats 8000000 in
theorem no_new (room : Int) (h : newE noTox room ≠ 0) (p : Option Addr) (m d : Nat) (w : World) :
    Calls Try.prog 6 #[.int .i64 room, .slice p m d] w fun e w' => e = .returned (.bool true) ∧ Below w.heap.size w w' := by
  have HN := Lib.hid (new_c_no (room := room) (now := 0) h w)
  have hE : (newE noTox room != 0) = true := by simpa using h
  generalize newE noTox room = E at *
  clear h
  go_enter Try.func6, Try.ntmps6
  go_wp2_with fail
  refine HN.out.mono ?_
  rintro e w2 ⟨rfl, hb⟩
  have HB2 := Lib.hid hb
  clear hb
  go_wp2_with fail
  refine (valive_any _).mono ?_
  rintro e w3 ⟨rfl, hb⟩
  have HB3 := Lib.hid (HB2.out.trans (hb.mono HB2.out.size))
  clear hb
  go_wp2_with fail
  go_ret
  exact ⟨rfl, HB3.out⟩
set_option maxRecDepth 100000 in
set_option maxHeartbeats 16000000 in
theorem walk (room : Int) (p : Option Addr) (m d : Nat) (os : List COp) (w : World) (hx : os.length = m) (hmd : m ≤ d) (hd : d ≤ 9223372036854775807) (hz : ∀ o ∈ os, o.s.size ≤ 140737488351232 ∧ o.t.s.size ≤ 140737488351232) (hj : OpsIn w p m os) :
    Calls Try.prog 6 #[.int .i64 room, .slice p m d] w fun e w' => e = .returned (.bool true) ∧ Below w.heap.size w w' := by
  by_cases hE : newE noTox room ≠ 0
  · exact no_new room hE p m d w
  have hE0 : newE noTox room = 0 := by omega
  have HX := Lib.hid hx
  have HJ := Lib.hid hj
  have HZ := Lib.hid hz
  have HN := Lib.hid (new_v (now := 0) hE0 w)
  clear hE hx hz hj hE0
  go_enter Try.func6, Try.ntmps6
  go_wp2_with fail
  refine HN.out.mono ?_
  rintro e w2 ⟨g, U, rfl, h1⟩
  have HA2 := Lib.hid h1
  clear h1 HN
  go_wp2_with fail
  refine (few_any p m d os _ HX.out hmd hd HZ.out (ops_on HJ.out HA2.out.2.2)).mono ?_
  rintro e w3 ⟨b, rfl, hf, hb⟩
  have HA3 := Lib.hid (HA2.out.on hb)
  have HF := Lib.hid hf
  clear hb hf HA2 hmd hd
  cases b with
  | false =>
    clear HF
    go_wp2_with fail
    refine (valive_any _).mono ?_
    rintro e w5 ⟨rfl, hb5⟩
    have HB5 := Lib.hid (HA3.out.on hb5).2.2
    clear hb5
    go_wp2_with fail
    go_ret
    exact ⟨rfl, HB5.out⟩
  | true =>
    obtain ⟨hm, htt⟩ := HF.out rfl
    have HT := Lib.hid htt
    clear HF htt
    go_wp2_with fail
    go_loopw [30] (fun i wr => ∃ (k : Nat) (c : Ch) (U' : Own), k ≤ m ∧ i = .int .i64 k ∧ Hid (CHd w wr U' g c (total (os.take k))) ∧ Hid (c.St3) ∧ Hid (c.state = 2 → c.held = 0)) (fun i _ => m - (intOf i).toNat)
    case atStart => exact ⟨0, _, U, by omega, rfl, HA3, Lib.hid (Ch.St3.new room 0), Lib.hid (fun h => absurd h (by show ¬ ((0 : Int) = 2); decide))⟩
    case round =>
      clear HA3
      obtain ⟨k, c, U1, hk, rfl, HA, HS3, HE⟩ := hrel
      by_cases hlt : k < m
      · obtain ⟨b, o, rfl, hcell⟩ := ops_on HJ.out HA.out.2.2 (by omega)
        obtain ⟨c0, c1, c2, c3, c4, c5, c6, c7, c8, c9, cA⟩ := hcell k hlt
        have hzk := HZ.out _ (at_of os k (by rw [HX.out]; exact hlt))
        have HTK := Lib.hid (total_step os k m HX.out hlt _ rfl)
        have HTL := Lib.hid (Nat.le_trans (total_take_le os (k + 1)) HT.out)
        generalize os.getD k noOp = op at *
        have HZK := Lib.hid hzk
        have hlen := HA.out.len
        have hh2 := HS3.out.held2 op hlen HE.out
        have hst := Ch.state_do c op
        have hs3 := HS3.out.do op hlen.1
        have hsr := HS3.out.st
        obtain ⟨kd, T, N, b0, tx, sd⟩ := op
        obtain ⟨us, uk, uu, uo, ua, ub⟩ := tx
        simp only at c0 c1 c2 c3 c4 c5 c6 c7 c8 c9 cA HTK HZK hh2 hst hs3
        rw [← Nat.add_assoc] at c1 c2 c3 c4 c5 c6 c7 c8 c9 cA
        have hal : Below wr.heap.size wr (wr.alloc (.cells #[.int .i64 kd, .int .i64 T, .int .i64 N, .string b0, .string us, .int .i64 uk, .bool uu, .int .i64 uo, .int .i64 ua, .int .i64 ub, .int .u64 sd] 33)) := (Below.refl _ _).alloc (Nat.le_refl _) _
        have HA4 := Lib.hid (HA.out.on hal)
        have HO4 := Lib.hid (heap_alloc_new wr (.cells #[.int .i64 kd, .int .i64 T, .int .i64 N, .string b0, .string us, .int .i64 uk, .bool uu, .int .i64 uo, .int .i64 ua, .int .i64 ub, .int .u64 sd] 33))
        have HU4 := Lib.hid (HA.out.new (Nat.le_refl _))
        clear hal HA hcell hzk hlen
        obtain ⟨c1', hc1⟩ : ∃ c1', c.doN ⟨kd, T, N, b0, ⟨us, uk, uu, uo, ua, ub⟩, sd⟩ = c1' := ⟨_, rfl⟩
        obtain ⟨a1, ha1⟩ : ∃ a1, c.doA ⟨kd, T, N, b0, ⟨us, uk, uu, uo, ua, ub⟩, sd⟩ = a1 := ⟨_, rfl⟩
        rw [hc1] at hh2 hs3
        rw [hc1, ha1] at hst
        have HS4 := Lib.hid hs3
        have HH2 := Lib.hid hh2
        have HST := Lib.hid hst
        obtain ⟨X, hX⟩ : ∃ X, c.state = X := ⟨_, rfl⟩
        have HSV := Lib.hid (state_v HA4.out.1)
        rw [hX] at HSV hsr HST
        have HSR := Lib.hid hsr
        clear hs3 hh2 hst HS3 HE hX hsr
        go_wp2_with fail
        generalize wr.alloc (.cells #[.int .i64 kd, .int .i64 T, .int .i64 N, .string b0, .string us, .int .i64 uk, .bool uu, .int .i64 uo, .int .i64 ua, .int .i64 ub, .int .u64 sd] 33) = w4 at *
        generalize wr.heap.size = go at *
        clear c0 c1 c2 c3 c4 c5 c6 c7 c8 c9 cA
        have o0 := cell_of_row w4 go 0 _ _ _ HO4.out
        have o1 := cell_of_row w4 go 1 _ _ _ HO4.out
        have o2 := cell_of_row w4 go 2 _ _ _ HO4.out
        have o3 := cell_of_row w4 go 3 _ _ _ HO4.out
        have o4 := cell_of_row w4 go 4 _ _ _ HO4.out
        have o5 := cell_of_row w4 go 5 _ _ _ HO4.out
        have o6 := cell_of_row w4 go 6 _ _ _ HO4.out
        have o7 := cell_of_row w4 go 7 _ _ _ HO4.out
        have o8 := cell_of_row w4 go 8 _ _ _ HO4.out
        have o9 := cell_of_row w4 go 9 _ _ _ HO4.out
        have oA := cell_of_row w4 go 10 _ _ _ HO4.out
        have HDs := Lib.hid (vdoes_any (M' := total (os.take (k + 1))) HA4.out ⟨kd, T, N, b0, ⟨us, uk, uu, uo, ua, ub⟩, sd⟩ (by show us.size ≤ maxLen; have := HTK.out; have := HTL.out; unfold maxLen; omega) (by rw [HTK.out]; exact Nat.le_refl _) (by have := HTL.out; omega))
        rw [hc1, ha1] at HDs
        unfold vopV at HDs
        simp only at HDs
        clear hc1 ha1
        refine HSV.out.mono ?_
        rintro e w5 ⟨rfl, rfl⟩
        clear HSV
        go_wp2_with fail
        refine HDs.out.mono ?_
        rintro e w6 ⟨rfl, U6, h6, hr6⟩
        have hk6 : w6.heap[go]? = _ ∧ ¬ U6 go := ⟨(hr6 go (gb.blk_lt HO4.out) HU4.out).1.trans HO4.out, (hr6 go (gb.blk_lt HO4.out) HU4.out).2⟩
        have hal : Below w6.heap.size w6 (w6.alloc (.cells #[.int .i64 a1.n, .string a1.s, .int .i64 a1.e] 35)) := (Below.refl _ _).alloc (Nat.le_refl _) _
        have HA7 := Lib.hid (h6.on hal)
        have HO7 := Lib.hid ((hal.block _ (gb.blk_lt hk6.1)).trans hk6.1)
        have HG7 := Lib.hid (heap_alloc_new w6 (.cells #[.int .i64 a1.n, .string a1.s, .int .i64 a1.e] 35))
        clear hal h6 hr6 hk6 HDs HA4 HO4 HU4 o0 o1 o2 o3 o4 o5 o6 o7 o8 o9 oA
        obtain ⟨n1, t1, e1⟩ := a1
        simp only at HST HA7 HG7 ⊢
        go_upto_region 9 with fail
        generalize w6.alloc (.cells #[.int .i64 n1, .string t1, .int .i64 e1] 35) = w7 at *
        generalize w6.heap.size = gx at *
        have p0 := cell_of_row w7 go 0 _ _ _ HO7.out
        have p3 := cell_of_row w7 go 3 _ _ _ HO7.out
        have y0 := cell_of_row w7 gx 0 _ _ _ HG7.out
        have y1 := cell_of_row w7 gx 1 _ _ _ HG7.out
        have HV1 := Lib.hid (state_v HA7.out.1)
        have HV2 := Lib.hid (held_v HA7.out.1)
        have hs := HSR.out
        rcases (show X = 0 ∨ X = 1 ∨ X = 2 by omega) with rfl | rfl | rfl
        · clear HV1 HV2 hs HST HSR
          go_wp2_with fail
          go_roundw
          case rel => exact ⟨k + 1, c1', U6, by omega, by go_num, HA7, HS4, HH2⟩
          case measure => simp [intOf]; omega
        · obtain ⟨g1, g2, _⟩ := HST.out (Or.inl rfl)
          rw [g1] at HV1
          have HG2 := Lib.hid g2
          clear HV2 hs HST HSR g1 g2
          go_wp2_with fail
          refine HV1.out.mono ?_
          rintro e w8 ⟨rfl, rfl⟩
          clear HV1
          by_cases hk0 : kd = 0
          · obtain rfl : n1 = 0 := HG2.out hk0
            subst hk0
            clear HG2
            go_wp2_with fail
            go_roundw
            case rel => exact ⟨k + 1, c1', U6, by omega, by go_num, HA7, HS4, HH2⟩
            case measure => simp [intOf]; omega
          · have dk : (kd == 0) = false := by simpa using hk0
            clear HG2 hk0
            go_wp2_with fail
            go_roundw
            case rel => exact ⟨k + 1, c1', U6, by omega, by go_num, HA7, HS4, HH2⟩
            case measure => simp [intOf]; omega
        · obtain ⟨g1, g2, g3⟩ := HST.out (Or.inr rfl)
          rw [HH2.out g1] at HV2
          rw [g1] at HV1
          obtain rfl : t1 = ⟨#[]⟩ := Ch.size_none _ (g3 rfl)
          have HG2 := Lib.hid g2
          clear hs HST HSR g1 g2 g3
          go_wp2_with fail
          refine HV1.out.mono ?_
          rintro e w8 ⟨rfl, rfl⟩
          clear HV1
          by_cases hk0 : kd = 0
          · obtain rfl : n1 = 0 := HG2.out hk0
            subst hk0
            clear HG2
            go_wp2_with fail
            refine HV2.out.mono ?_
            rintro e w8 ⟨rfl, rfl⟩
            clear HV2
            go_wp2_with fail
            go_roundw
            case rel => exact ⟨k + 1, c1', U6, by omega, by go_num, HA7, HS4, HH2⟩
            case measure => simp [intOf]; omega
          · have dk : (kd == 0) = false := by simpa using hk0
            clear HG2 hk0
            go_wp2_with fail
            refine HV2.out.mono ?_
            rintro e w8 ⟨rfl, rfl⟩
            clear HV2
            go_wp2_with fail
            go_roundw
            case rel => exact ⟨k + 1, c1', U6, by omega, by go_num, HA7, HS4, HH2⟩
            case measure => simp [intOf]; omega
      · obtain rfl : k = m := by omega
        clear hlt hk
        go_wp2_with fail
        refine (valive_any _).mono ?_
        rintro e w5 ⟨rfl, hb5⟩
        have HB5 := Lib.hid (HA.out.on hb5).2.2
        clear hb5 HA
        go_wp2_with fail
        go_ret
        exact ⟨rfl, HB5.out⟩
end chainEnds
end Go.Proofs.Ytfdfgnmgpgkknaa

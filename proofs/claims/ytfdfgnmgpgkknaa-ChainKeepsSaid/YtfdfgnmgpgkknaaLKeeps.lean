/-
  The walk of chicanelaw11.ChainKeeps: it returns true, whatever calls. Conditions: as each states.
-/
import Derived.Test.YtfdfgnmgpgkknaaMY30
namespace Go.Proofs.Ytfdfgnmgpgkknaa
open Go.RowKit
namespace chainKeeps
theorem cat_assoc (a b c : ByteArray) : (a ++ b) ++ c = a ++ (b ++ c) := ByteArray.append_assoc
theorem cat_size (a b : ByteArray) : (a ++ b).size = a.size + b.size := ByteArray.size_append
theorem cat_runs {a b c : ByteArray} (h : a ++ b = c) (ha : a.size ≤ 1100000) (hb : b.size ≤ 1100000) (w : World) : (Op.stringOp .add a b).run Try.prog w = .ok (.string c) w := by
  rw [← h]
  exact run_string_add w a b (by omega) (by omega)
set_option maxRecDepth 100000 in
set_option maxHeartbeats 8000000 in
theorem no_new (room : Int) (h : newE noTox room ≠ 0) (p : Option Addr) (m d : Nat) (w : World) :
    Calls Try.prog 4 #[.int .i64 room, .slice p m d] w fun e w' => e = .returned (.bool true) ∧ Below w.heap.size w w' := by
  have HN := Lib.hid (new_c_no (room := room) (now := 0) h w)
  have hE : (newE noTox room != 0) = true := by simpa using h
  generalize newE noTox room = E at *
  clear h
  go_enter Try.func4, Try.ntmps4
  go_wp2_with fail
  refine HN.out.mono ?_
  rintro e w2 ⟨rfl, hb⟩
  have HB2 := Lib.hid hb
  clear hb
  go_wp2_with fail
  refine (valive_any _).mono ?_
  rintro e w3 ⟨rfl, hb⟩
  have HB3 := Lib.hid (HB2.out.trans (hb.mono HB2.out.size))
  clear hb
  go_wp2_with fail
  go_ret
  exact ⟨rfl, HB3.out⟩
set_option maxRecDepth 100000 in
set_option maxHeartbeats 16000000 in
theorem walk (room : Int) (p : Option Addr) (m d : Nat) (os : List COp) (w : World) (hx : os.length = m) (hmd : m ≤ d) (hd : d ≤ 9223372036854775807) (hz : ∀ o ∈ os, o.s.size ≤ 140737488351232 ∧ o.t.s.size ≤ 140737488351232) (hj : OpsIn w p m os) :
    Calls Try.prog 4 #[.int .i64 room, .slice p m d] w fun e w' => e = .returned (.bool true) ∧ Below w.heap.size w w' := by
  by_cases hE : newE noTox room ≠ 0
  · exact no_new room hE p m d w
  have hE0 : newE noTox room = 0 := by omega
  have HX := Lib.hid hx
  have HJ := Lib.hid hj
  have HZ := Lib.hid hz
  have HN := Lib.hid (new_v (now := 0) hE0 w)
  clear hE hx hz hj hE0
  go_enter Try.func4, Try.ntmps4
  go_wp2_with fail
  refine HN.out.mono ?_
  rintro e w2 ⟨g, U, rfl, h1⟩
  have HA2 := Lib.hid h1
  clear h1 HN
  go_wp2_with fail
  refine (few_any p m d os _ HX.out hmd hd HZ.out (ops_on HJ.out HA2.out.2.2)).mono ?_
  rintro e w3 ⟨b, rfl, hf, hb⟩
  have HA3 := Lib.hid (HA2.out.on hb)
  have HF := Lib.hid hf
  clear hb hf HA2 hmd hd
  cases b with
  | false =>
    clear HF
    go_wp2_with fail
    refine (valive_any _).mono ?_
    rintro e w5 ⟨rfl, hb5⟩
    have HB5 := Lib.hid (HA3.out.on hb5).2.2
    clear hb5
    go_wp2_with fail
    go_ret
    exact ⟨rfl, HB5.out⟩
  | true =>
    obtain ⟨hm, htt⟩ := HF.out rfl
    have HT := Lib.hid htt
    clear HF htt
    go_wp2_with fail
    go_loopw [7, 8, 31] (fun vi vo i wr => ∃ (k : Nat) (c : Ch) (U' : Own) (I O : ByteArray), k ≤ m ∧ i = .int .i64 k ∧ vi = .string I ∧ vo = .string O ∧ Hid (CHd w wr U' g c (total (os.take k))) ∧ Hid (c.St3) ∧ Hid (Ch.Kept c I O ∧ I.size ≤ total (os.take k))) (fun _ _ i _ => m - (intOf i).toNat)
    case atStart => exact ⟨0, _, U, ⟨#[]⟩, ⟨#[]⟩, by omega, rfl, rfl, rfl, HA3, Lib.hid (Ch.St3.new room 0), Lib.hid ⟨Ch.kept_new room 0, Nat.zero_le _⟩⟩
    case round =>
      clear HA3
      obtain ⟨k, c, U1, I, O, hk, rfl, rfl, rfl, HA, HS3, HE⟩ := hrel
      by_cases hlt : k < m
      · obtain ⟨b, o, rfl, hcell⟩ := ops_on HJ.out HA.out.2.2 (by omega)
        obtain ⟨c0, c1, c2, c3, c4, c5, c6, c7, c8, c9, cA⟩ := hcell k hlt
        have hzk := HZ.out _ (at_of os k (by rw [HX.out]; exact hlt))
        have HTK := Lib.hid (total_step os k m HX.out hlt _ rfl)
        have HTL := Lib.hid (Nat.le_trans (total_take_le os (k + 1)) HT.out)
        generalize os.getD k noOp = op at *
        have HZK := Lib.hid hzk
        have hlen := HA.out.len
        have hkeep := Ch.keeps_do c op I O hlen.1 HE.out.1
        have hans := HS3.out.ans op hlen.1
        have hs3 := HS3.out.do op hlen.1
        have HIZ := Lib.hid HE.out.2
        clear HE
        obtain ⟨kd, T, N, b0, tx, sd⟩ := op
        obtain ⟨us, uk, uu, uo, ua, ub⟩ := tx
        simp only at c0 c1 c2 c3 c4 c5 c6 c7 c8 c9 cA HTK HZK hkeep hans hs3
        rw [← Nat.add_assoc] at c1 c2 c3 c4 c5 c6 c7 c8 c9 cA
        have hal : Below wr.heap.size wr (wr.alloc (.cells #[.int .i64 kd, .int .i64 T, .int .i64 N, .string b0, .string us, .int .i64 uk, .bool uu, .int .i64 uo, .int .i64 ua, .int .i64 ub, .int .u64 sd] 33)) := (Below.refl _ _).alloc (Nat.le_refl _) _
        have HA4 := Lib.hid (HA.out.on hal)
        have HO4 := Lib.hid (heap_alloc_new wr (.cells #[.int .i64 kd, .int .i64 T, .int .i64 N, .string b0, .string us, .int .i64 uk, .bool uu, .int .i64 uo, .int .i64 ua, .int .i64 ub, .int .u64 sd] 33))
        have HU4 := Lib.hid (HA.out.new (Nat.le_refl _))
        clear hal HA hcell hzk hlen
        obtain ⟨c1', hc1⟩ : ∃ c1', c.doN ⟨kd, T, N, b0, ⟨us, uk, uu, uo, ua, ub⟩, sd⟩ = c1' := ⟨_, rfl⟩
        obtain ⟨a1, ha1⟩ : ∃ a1, c.doA ⟨kd, T, N, b0, ⟨us, uk, uu, uo, ua, ub⟩, sd⟩ = a1 := ⟨_, rfl⟩
        rw [hc1, ha1] at hkeep
        rw [ha1] at hans
        rw [hc1] at hs3
        have HS4 := Lib.hid hs3
        have HKP := Lib.hid hkeep
        have HAN := Lib.hid hans
        clear hkeep hans hs3 HS3
        go_wp2_with fail
        generalize wr.alloc (.cells #[.int .i64 kd, .int .i64 T, .int .i64 N, .string b0, .string us, .int .i64 uk, .bool uu, .int .i64 uo, .int .i64 ua, .int .i64 ub, .int .u64 sd] 33) = w4 at *
        generalize wr.heap.size = go at *
        clear c0 c1 c2 c3 c4 c5 c6 c7 c8 c9 cA
        have o0 := cell_of_row w4 go 0 _ _ _ HO4.out
        have o1 := cell_of_row w4 go 1 _ _ _ HO4.out
        have o2 := cell_of_row w4 go 2 _ _ _ HO4.out
        have o3 := cell_of_row w4 go 3 _ _ _ HO4.out
        have o4 := cell_of_row w4 go 4 _ _ _ HO4.out
        have o5 := cell_of_row w4 go 5 _ _ _ HO4.out
        have o6 := cell_of_row w4 go 6 _ _ _ HO4.out
        have o7 := cell_of_row w4 go 7 _ _ _ HO4.out
        have o8 := cell_of_row w4 go 8 _ _ _ HO4.out
        have o9 := cell_of_row w4 go 9 _ _ _ HO4.out
        have oA := cell_of_row w4 go 10 _ _ _ HO4.out
        have HDs := Lib.hid (vdoes_any (M' := total (os.take (k + 1))) HA4.out ⟨kd, T, N, b0, ⟨us, uk, uu, uo, ua, ub⟩, sd⟩ (by show us.size ≤ maxLen; have := HTK.out; have := HTL.out; unfold maxLen; omega) (by rw [HTK.out]; exact Nat.le_refl _) (by have := HTL.out; omega))
        rw [hc1, ha1] at HDs
        unfold vopV at HDs
        simp only at HDs
        clear hc1 ha1
        go_wp2_with fail
        refine HDs.out.mono ?_
        rintro e w6 ⟨rfl, U6, h6, hr6⟩
        have hk6 : w6.heap[go]? = _ ∧ ¬ U6 go := ⟨(hr6 go (gb.blk_lt HO4.out) HU4.out).1.trans HO4.out, (hr6 go (gb.blk_lt HO4.out) HU4.out).2⟩
        have hal : Below w6.heap.size w6 (w6.alloc (.cells #[.int .i64 a1.n, .string a1.s, .int .i64 a1.e] 35)) := (Below.refl _ _).alloc (Nat.le_refl _) _
        have HA7 := Lib.hid (h6.on hal)
        have HO7 := Lib.hid ((hal.block _ (gb.blk_lt hk6.1)).trans hk6.1)
        have HG7 := Lib.hid (heap_alloc_new w6 (.cells #[.int .i64 a1.n, .string a1.s, .int .i64 a1.e] 35))
        clear hal h6 hr6 hk6 HDs HA4 HO4 HU4 o0 o1 o2 o3 o4 o5 o6 o7 o8 o9 oA
        obtain ⟨n1, t1, e1⟩ := a1
        simp only at HKP HAN HA7 HG7 ⊢
        go_upto_region 9 with fail
        generalize w6.alloc (.cells #[.int .i64 n1, .string t1, .int .i64 e1] 35) = w7 at *
        generalize w6.heap.size = gx at *
        have p0 := cell_of_row w7 go 0 _ _ _ HO7.out
        have p3 := cell_of_row w7 go 3 _ _ _ HO7.out
        have y0 := cell_of_row w7 gx 0 _ _ _ HG7.out
        have y1 := cell_of_row w7 gx 1 _ _ _ HG7.out
        have hN := HAN.out
        have hTK := HTK.out
        have hTL := HTL.out
        have hIZ := HIZ.out
        obtain ⟨J, hJ⟩ : ∃ J, (if kd = 0 then b0.extract 0 n1.toNat else (⟨#[]⟩ : ByteArray)) = J := ⟨_, rfl⟩
        rw [hJ] at HKP
        have hjs : J.size ≤ b0.size := by
          rw [← hJ]
          split
          · rw [ByteArray.size_extract]; omega
          · exact Nat.zero_le _
        obtain ⟨I2, hI2⟩ : ∃ I2, I ++ J = I2 := ⟨_, rfl⟩
        obtain ⟨O2, hO2⟩ : ∃ O2, O ++ t1 = O2 := ⟨_, rfl⟩
        have hI2s : I2.size ≤ total (os.take (k + 1)) := by rw [← hI2, cat_size]; omega
        rw [hI2, hO2] at HKP
        have hpf := Ch.kept_pf HKP.out
        have hos : O.size + t1.size ≤ 2000 := by have := congrArg ByteArray.size hO2; rw [cat_size] at this; omega
        have HREL := Lib.hid (show Ch.Kept c1' I2 O2 ∧ I2.size ≤ total (os.take (k + 1)) from ⟨HKP.out, hI2s⟩)
        have r2 := fun W => cat_runs hO2 (by omega) (by omega) W
        have hle := hpf.1
        have hex := hpf.2
        have dl : decide ((I2.size : Int) < O2.size) = false := decide_eq_false (by omega)
        by_cases hk0 : kd = 0
        · rw [if_pos hk0] at hJ
          subst hk0
          have hn0 : 0 ≤ n1 := hN.1
          have hn1 : n1 ≤ b0.size := hN.2 rfl
          have d0 : decide (0 ≤ n1) = true := decide_eq_true hn0
          have d1 : decide (n1 ≤ (b0.size : Int)) = true := decide_eq_true hn1
          rw [← hJ] at hI2 hjs
          have r1 := fun W => cat_runs hI2 (by omega) (by omega) W
          clear hN hTK hTL hIZ hJ hjs hI2 hO2 hI2s hpf hos HKP HIZ
          go_wp2_with fail
          go_roundw
          case rel => exact ⟨k + 1, c1', U6, I2, O2, by omega, by go_num, rfl, rfl, HA7, HS4, HREL⟩
          case measure => simp [intOf]; omega
        · rw [if_neg hk0] at hJ
          have dk : (kd == 0) = false := by simpa using hk0
          have hI3 : I = I2 := by rw [← hI2, ← hJ, cat_none]
          clear hN hTK hTL hIZ hJ hjs hI2 hO2 hI2s hpf hos HKP HIZ hk0
          subst hI3
          go_wp2_with fail
          go_roundw
          case rel => exact ⟨k + 1, c1', U6, _, O2, by omega, by go_num, rfl, rfl, HA7, HS4, HREL⟩
          case measure => simp [intOf]; omega
      · obtain rfl : k = m := by omega
        clear hlt hk
        go_wp2_with fail
        refine (valive_any _).mono ?_
        rintro e w5 ⟨rfl, hb5⟩
        have HB5 := Lib.hid (HA.out.on hb5).2.2
        clear hb5 HA
        go_wp2_with fail
        go_ret
        exact ⟨rfl, HB5.out⟩
end chainKeeps
end Go.Proofs.Ytfdfgnmgpgkknaa

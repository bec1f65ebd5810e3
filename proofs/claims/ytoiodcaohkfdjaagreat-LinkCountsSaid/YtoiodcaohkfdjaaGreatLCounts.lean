/-
  The walk of chicanelaw12.LinkCounts: it returns true, whatever calls. Conditions: as each states.
-/
import Derived.Test.YtoiodcaohkfdjaaGreatMP49
namespace Go.Proofs.YtoiodcaohkfdjaaGreat
open Go.RowKit
namespace linkCounts
theorem cat_size (a b : ByteArray) : (a ++ b).size = a.size + b.size := ByteArray.size_append
theorem cat_runs {a b c : ByteArray} (h : a ++ b = c) (ha : a.size ≤ 1100000) (hb : b.size ≤ 1100000) (w : World) : (Op.stringOp .add a b).run Tryz.prog w = .ok (.string c) w := by
  rw [← h]
  exact run_string_add w a b (by omega) (by omega)
set_option maxRecDepth 100000 in
set_option maxHeartbeats 8000000 in
theorem no_new (pl : Option Addr) (nl dl : Nat) (l : List Tox) (up : Bool) (seed room : Int) (p : Option Addr) (m d : Nat) (w : World) (hl : l.length = nl) (hnd : nl ≤ dl) (hzl : ∀ t ∈ l, t.s.size ≤ 140737488351232) (hil : ToxIn w pl nl l) (hE : newLE l room ≠ 0) :
    Calls Tryz.prog 4 #[.agg #[.slice pl nl dl, .bool up, .int .u64 seed, .int .i64 room], .slice p m d] w fun e w' => e = .returned (.bool true) ∧ Below w.heap.size w w' := by
  have hal : Below w.heap.size w (w.alloc (.cells #[.slice pl nl dl, .bool up, .int .u64 seed, .int .i64 room] 25)) := (Below.refl _ _).alloc (Nat.le_refl _) _
  have HN := Lib.hid (lnew_no pl nl dl l up seed room 0 (w.alloc (.cells #[.slice pl nl dl, .bool up, .int .u64 seed, .int .i64 room] 25)) hl hnd hzl (toxs_on hil hal) hE)
  have HA := Lib.hid hal
  have d1 : (newLE l room != 0) = true := by simpa using hE
  have d2 : decide (newLE l room = 0) = false := by simpa using hE
  generalize newLE l room = E at *
  clear hE hal hl hzl hil
  go_enter Tryz.func4, Tryz.ntmps4
  go_wp2_with fail
  refine HN.out.mono ?_
  rintro e w2 ⟨rfl, hb⟩
  have HB2 := Lib.hid (HA.out.trans (hb.mono HA.out.size))
  clear hb HN HA
  go_wp2_with fail
  refine (lalive _).mono ?_
  rintro e w3 ⟨rfl, hb⟩
  have HB3 := Lib.hid (HB2.out.trans (hb.mono HB2.out.size))
  clear hb
  go_wp2_with fail
  go_ret
  exact ⟨rfl, HB3.out⟩
set_option maxRecDepth 100000 in
set_option maxHeartbeats 16000000 in
theorem walk (pl : Option Addr) (nl dl : Nat) (l : List Tox) (up : Bool) (seed room : Int) (p : Option Addr) (m d : Nat) (os : List LOp) (w : World) (hl : l.length = nl) (hnd : nl ≤ dl) (hzl : ∀ t ∈ l, t.s.size ≤ 140737488351232) (hil : ToxIn w pl nl l) (hx : os.length = m) (hmd : m ≤ d) (hd : d ≤ 9223372036854775807) (hz : ∀ o ∈ os, o.s.size ≤ 140737488351232 ∧ o.t.s.size ≤ 140737488351232) (hj : LopsIn w p m os) :
    Calls Tryz.prog 4 #[.agg #[.slice pl nl dl, .bool up, .int .u64 seed, .int .i64 room], .slice p m d] w fun e w' => e = .returned (.bool true) ∧ Below w.heap.size w w' := by
  by_cases hE : newLE l room ≠ 0
  · exact no_new pl nl dl l up seed room p m d w hl hnd hzl hil hE
  have hE0 : newLE l room = 0 := by omega
  have HX := Lib.hid hx
  have HJ := Lib.hid hj
  have HZ := Lib.hid hz
  have hal : Below w.heap.size w (w.alloc (.cells #[.slice pl nl dl, .bool up, .int .u64 seed, .int .i64 room] 25)) := (Below.refl _ _).alloc (Nat.le_refl _) _
  have HN := Lib.hid (lnew pl nl dl l up seed room 0 (w.alloc (.cells #[.slice pl nl dl, .bool up, .int .u64 seed, .int .i64 room] 25)) hl hnd hzl (toxs_on hil hal) hE0)
  have HAL := Lib.hid hal
  have hnew := heap_alloc_new w (.cells #[.slice pl nl dl, .bool up, .int .u64 seed, .int .i64 room] 25)
  have HNW := Lib.hid hnew
  have HIL := Lib.hid (And.intro hl hil)
  clear hE hE0 hal hl hzl hil hx hz hj
  go_enter Tryz.func4, Tryz.ntmps4
  go_wp2_with fail
  refine HN.out.mono ?_
  rintro e w2 ⟨g, V, rfl, h1, hmk⟩
  have hs0 := cell_of_row w2 w.heap.size 0 _ _ _ ((h1.2.2.block _ (gb.blk_lt hnew)).trans hnew)
  have hs1 := cell_of_row w2 w.heap.size 1 _ _ _ ((h1.2.2.block _ (gb.blk_lt hnew)).trans hnew)
  have hs2 := cell_of_row w2 w.heap.size 2 _ _ _ ((h1.2.2.block _ (gb.blk_lt hnew)).trans hnew)
  have hs3 := cell_of_row w2 w.heap.size 3 _ _ _ ((h1.2.2.block _ (gb.blk_lt hnew)).trans hnew)
  have HNW := Lib.hid ((h1.2.2.block _ (gb.blk_lt hnew)).trans hnew)
  have HA2 := Lib.hid (h1.base HAL.out)
  have HMK := Lib.hid hmk
  clear h1 hmk HN HAL hnew
  generalize (Lk.newK up seed room 0).addL 0 l = k0 at *
  go_wp2_with fail
  refine (lfew_any pl nl dl up seed room p m d os _ HX.out hmd hd HZ.out (lops_on HJ.out HA2.out.2.2)).mono ?_
  rintro e w3 ⟨b, rfl, hf, hb⟩
  have HA3 := Lib.hid (HA2.out.on hb)
  have HNW := Lib.hid ((hb.block _ (gb.blk_lt HNW.out)).trans HNW.out)
  have HF := Lib.hid hf
  clear hb hf HA2 hs0 hs1 hs2 hs3 hmd hd
  cases b with
  | false =>
    clear HF
    go_wp2_with fail
    refine (lalive _).mono ?_
    rintro e w5 ⟨rfl, hb5⟩
    have HB5 := Lib.hid (HA3.out.on hb5).2.2
    clear hb5
    go_wp2_with fail
    go_ret
    exact ⟨rfl, HB5.out⟩
  | true =>
    obtain ⟨hnl, hm, htt⟩ := HF.out rfl
    have HT := Lib.hid htt
    clear HF htt
    go_wp2_with fail
    go_loopw [7, 8, 10, 11, 12, 40] (fun vi vo _ _ _ i wr => ∃ (k : Nat) (K : Lk) (U1 : Own) (I O : ByteArray), k ≤ m ∧ i = .int .i64 k ∧ vi = .string I ∧ vo = .string O ∧ Hid (LHd w wr U1 g K (128 + ltot (os.take k))) ∧ Hid (K.Kept I O)) (fun _ _ _ _ _ i _ => m - (intOf i).toNat)
    case atStart => exact ⟨0, k0, V, ⟨#[]⟩, ⟨#[]⟩, by omega, rfl, rfl, rfl, HA3, Lib.hid HMK.out.kept⟩
    case round =>
      clear HA3
      obtain ⟨k, K, U1, I, O, hk, rfl, rfl, rfl, HA, HKP⟩ := hrel
      by_cases hlt : k < m
      · obtain ⟨b, o, rfl, hcell⟩ := lops_on HJ.out HA.out.2.2 (by omega)
        obtain ⟨c0, c1, c2, c3, c4, c5, c6, c7, c8, c9⟩ := hcell k hlt
        have hzk := HZ.out _ (lat_of os k (by rw [HX.out]; exact hlt))
        have HTK := Lib.hid (ltot_step os k m HX.out hlt _ rfl)
        have HTL := Lib.hid (Nat.le_trans (ltot_take_le os (k + 1)) HT.out)
        generalize os.getD k noLop = op at *
        obtain ⟨K2, hK2⟩ : ∃ K2, K.doK op = K2 := ⟨_, rfl⟩
        obtain ⟨a1, ha1⟩ : ∃ a1, K.ansK op = a1 := ⟨_, rfl⟩
        have hkp := Lk.keeps_do HA.out.ok HA.out.bal' HKP.out op
        have hsk := Lk.kind_s K op
        have hnn := fun (h0 : op.kind = 0) => Lk.send_n HA.out.ok HA.out.bal' h0
        rw [hK2, ha1] at hkp
        rw [ha1] at hsk hnn
        have HIZ := Lib.hid (And.intro HKP.out.sent HA.out.nums)
        clear HKP
        have HDs := Lib.hid (fun (W : World) (hb : Below wr.heap.size wr W) => (show Calls Tryz.prog 15 #[ptr g, lopV op] W (LDoe w W U1 g K2 a1 (128 + ltot (os.take (k + 1)))) from by
          rw [← hK2, ← ha1]
          exact ldoes (HA.out.on hb) op (by unfold maxLen; have := hzk.2; omega) (by have := HTK.out; omega) (by have := HTL.out; omega)))
        obtain ⟨kd, T, N, b0, tx⟩ := op
        obtain ⟨us, uk, uu, uo, ua, ub⟩ := tx
        unfold lopV at HDs
        simp only at c0 c1 c2 c3 c4 c5 c6 c7 c8 c9 HTK HDs hkp hsk hnn
        rw [← Nat.add_assoc] at c1 c2 c3 c4 c5 c6 c7 c8 c9
        have hal : Below wr.heap.size wr (wr.alloc (.cells #[.int .i64 kd, .int .i64 T, .int .i64 N, .string b0, .string us, .int .i64 uk, .bool uu, .int .i64 uo, .int .i64 ua, .int .i64 ub] 45)) := (Below.refl _ _).alloc (Nat.le_refl _) _
        have HA4 := Lib.hid (HA.out.on hal)
        have HO4 := Lib.hid (heap_alloc_new wr (.cells #[.int .i64 kd, .int .i64 T, .int .i64 N, .string b0, .string us, .int .i64 uk, .bool uu, .int .i64 uo, .int .i64 ua, .int .i64 ub] 45))
        have HU4 := Lib.hid (HA.out.new (Nat.le_refl _))
        have HD4 := Lib.hid (HDs.out _ hal)
        clear hal HA HDs hcell hzk hK2 ha1
        have HKP := Lib.hid hkp
        have HSK := Lib.hid hsk
        have HNN := Lib.hid hnn
        clear hkp hsk hnn
        go_upto_region 8 with fail
        generalize wr.alloc (.cells #[.int .i64 kd, .int .i64 T, .int .i64 N, .string b0, .string us, .int .i64 uk, .bool uu, .int .i64 uo, .int .i64 ua, .int .i64 ub] 45) = w4 at *
        generalize wr.heap.size = go at *
        clear c0 c1 c2 c3 c4 c5 c6 c7 c8 c9
        have o0 := cell_of_row w4 go 0 _ _ _ HO4.out
        have o1 := cell_of_row w4 go 1 _ _ _ HO4.out
        have o2 := cell_of_row w4 go 2 _ _ _ HO4.out
        have o3 := cell_of_row w4 go 3 _ _ _ HO4.out
        have o4 := cell_of_row w4 go 4 _ _ _ HO4.out
        have o5 := cell_of_row w4 go 5 _ _ _ HO4.out
        have o6 := cell_of_row w4 go 6 _ _ _ HO4.out
        have o7 := cell_of_row w4 go 7 _ _ _ HO4.out
        have o8 := cell_of_row w4 go 8 _ _ _ HO4.out
        have o9 := cell_of_row w4 go 9 _ _ _ HO4.out
        go_wp2_with fail
        refine HD4.out.mono ?_
        rintro e w6 ⟨rfl, U6, h6, hr6⟩
        obtain ⟨n1, t1, e1⟩ := a1
        have hk6 : w6.heap[go]? = _ ∧ ¬ U6 go := ⟨(hr6 go (gb.blk_lt HO4.out) HU4.out).1.trans HO4.out, (hr6 go (gb.blk_lt HO4.out) HU4.out).2⟩
        have hal : Below w6.heap.size w6 (w6.alloc (.cells #[.int .i64 n1, .string t1, .int .i64 e1] 47)) := (Below.refl _ _).alloc (Nat.le_refl _) _
        have HA7 := Lib.hid (h6.on hal)
        have HO7 := Lib.hid ((hal.block _ (gb.blk_lt hk6.1)).trans hk6.1)
        have HG7 := Lib.hid (heap_alloc_new w6 (.cells #[.int .i64 n1, .string t1, .int .i64 e1] 47))
        clear hal h6 hr6 hk6 HD4 HA4 HO4 HU4 o0 o1 o2 o3 o4 o5 o6 o7 o8 o9
        go_upto_region 9 with fail
        generalize w6.alloc (.cells #[.int .i64 n1, .string t1, .int .i64 e1] 47) = w7 at *
        generalize w6.heap.size = gx at *
        have p0 := cell_of_row w7 go 0 _ _ _ HO7.out
        have p3 := cell_of_row w7 go 3 _ _ _ HO7.out
        have y0 := cell_of_row w7 gx 0 _ _ _ HG7.out
        have y1 := cell_of_row w7 gx 1 _ _ _ HG7.out
        have hTK := HTK.out
        have hTL := HTL.out
        have hIZ := HIZ.out
        have hlo := Ch.kept_pf HKP.out.c
        by_cases hk0 : kd = 0
        · obtain rfl : t1 = ⟨#[]⟩ := HSK.out (by omega)
          subst hk0
          obtain ⟨hn0, hn1⟩ := HNN.out rfl
          have d0 : decide (0 ≤ n1) = true := decide_eq_true hn0
          have d1 : decide (n1 ≤ (b0.size : Int)) = true := decide_eq_true hn1
          rw [if_pos rfl] at HKP hlo
          obtain ⟨I2, hI2⟩ : ∃ I2, I ++ b0.extract 0 n1.toNat = I2 := ⟨_, rfl⟩
          obtain ⟨O2, hO2⟩ : ∃ O2, O = O2 := ⟨_, rfl⟩
          have r9 := fun W => cat_runs hI2 (by omega) (by rw [ByteArray.size_extract]; omega) W
          rw [hI2, cat_none, hO2] at HKP
          subst hO2
          clear hTK hTL hIZ hlo HIZ HSK HNN hI2
          go_upto_region 13 with fail
          have HKC := Lib.hid (show Ch.Kept K2.c I2 O ∧ K2.sent = I2.size ∧ K2.got = O.size from ⟨HKP.out.c, HKP.out.sent, HKP.out.got⟩)
          have HCT := Lib.hid (lcounts HA7.out.1)
          have hbal := HA7.out.bal
          have hnm := HA7.out.nums
          rw [HKC.out.2.1, HKC.out.2.2] at HCT hbal hnm
          have hpf := Ch.kept_pf HKC.out.1
          obtain ⟨hle, hex⟩ := hpf
          obtain ⟨H, hH⟩ : ∃ H : Nat, K2.c.held = H := ⟨_, rfl⟩
          obtain ⟨L, hL⟩ : ∃ L : Int, K2.c.lost = L := ⟨_, rfl⟩
          rw [hH, hL] at HCT hbal
          have hL0 : 0 ≤ L := by rw [← hL]; exact HA7.out.lost0
          have q2 : IntKind.i64.wrap ((O.size : Int) + (H : Int)) = O.size + H := wrap_id (by omega) (by omega)
          have q3 : IntKind.i64.wrap ((O.size : Int) + (H : Int) + L) = I2.size := by rw [← hbal]; exact wrap_id (by omega) (by omega)
          have q4 : IntKind.i64.wrap ((O.size : Int) + ((H : Int) + L)) = I2.size := by rw [← Int.add_assoc]; exact q3
          have dl : decide ((I2.size : Int) < O.size) = false := decide_eq_false (by omega)
          clear hbal hnm hL0 hH hL HKC
          go_wp2_with fail
          refine HCT.out.mono ?_
          rintro e w8 ⟨rfl, hb8⟩
          have HA9 := Lib.hid (HA7.out.on hb8)
          have hal : Below w8.heap.size w8 (w8.alloc (.cells #[.int .i64 (I2.size : Int), .int .i64 (O.size : Int), .int .i64 (H : Int), .int .i64 L] 53)) := (Below.refl _ _).alloc (Nat.le_refl _) _
          have HA9 := Lib.hid (HA9.out.on hal)
          have hnw := heap_alloc_new w8 (.cells #[.int .i64 (I2.size : Int), .int .i64 (O.size : Int), .int .i64 (H : Int), .int .i64 L] 53)
          clear hb8 hal HCT HA7
          go_upto_region 14 with fail
          generalize w8.alloc (.cells #[.int .i64 (I2.size : Int), .int .i64 (O.size : Int), .int .i64 (H : Int), .int .i64 L] 53) = w9 at *
          have r0 := cell_of_row w9 _ 0 _ _ _ hnw
          have r1 := cell_of_row w9 _ 1 _ _ _ hnw
          have r2 := cell_of_row w9 _ 2 _ _ _ hnw
          have r3 := cell_of_row w9 _ 3 _ _ _ hnw
          clear hnw
          go_wp2_with fail
          go_roundw
          case rel => exact ⟨k + 1, K2, U6, I2, O, by omega, by go_num, rfl, rfl, HA9, HKP⟩
          case measure => simp [intOf]; omega
        · rw [if_neg hk0] at HKP hlo
          have dk : (kd == 0) = false := by simpa using hk0
          by_cases hk3 : kd = 3
          · subst hk3
            obtain ⟨O2, hO2⟩ : ∃ O2, O ++ t1 = O2 := ⟨_, rfl⟩
            obtain ⟨I2, hI2⟩ : ∃ I2, I = I2 := ⟨_, rfl⟩
            have hs : O.size + t1.size ≤ 400000 := by have := hlo.1; rw [cat_size, cat_size, show none0.size = 0 from rfl] at this; omega
            have r9 := fun W => cat_runs hO2 (by omega) (by omega) W
            rw [hO2, Lk.none_r, hI2] at HKP
            subst hI2
            clear hTK hTL hIZ hlo HIZ HSK HNN hk0 hs hO2
            go_upto_region 13 with fail
            have HKC := Lib.hid (show Ch.Kept K2.c I O2 ∧ K2.sent = I.size ∧ K2.got = O2.size from ⟨HKP.out.c, HKP.out.sent, HKP.out.got⟩)
            have HCT := Lib.hid (lcounts HA7.out.1)
            have hbal := HA7.out.bal
            have hnm := HA7.out.nums
            rw [HKC.out.2.1, HKC.out.2.2] at HCT hbal hnm
            have hpf := Ch.kept_pf HKC.out.1
            obtain ⟨hle, hex⟩ := hpf
            obtain ⟨H, hH⟩ : ∃ H : Nat, K2.c.held = H := ⟨_, rfl⟩
            obtain ⟨L, hL⟩ : ∃ L : Int, K2.c.lost = L := ⟨_, rfl⟩
            rw [hH, hL] at HCT hbal
            have hL0 : 0 ≤ L := by rw [← hL]; exact HA7.out.lost0
            have q2 : IntKind.i64.wrap ((O2.size : Int) + (H : Int)) = O2.size + H := wrap_id (by omega) (by omega)
            have q3 : IntKind.i64.wrap ((O2.size : Int) + (H : Int) + L) = I.size := by rw [← hbal]; exact wrap_id (by omega) (by omega)
            have q4 : IntKind.i64.wrap ((O2.size : Int) + ((H : Int) + L)) = I.size := by rw [← Int.add_assoc]; exact q3
            have dl : decide ((I.size : Int) < O2.size) = false := decide_eq_false (by omega)
            clear hbal hnm hL0 hH hL HKC
            go_wp2_with fail
            refine HCT.out.mono ?_
            rintro e w8 ⟨rfl, hb8⟩
            have HA9 := Lib.hid (HA7.out.on hb8)
            have hal : Below w8.heap.size w8 (w8.alloc (.cells #[.int .i64 (I.size : Int), .int .i64 (O2.size : Int), .int .i64 (H : Int), .int .i64 L] 53)) := (Below.refl _ _).alloc (Nat.le_refl _) _
            have HA9 := Lib.hid (HA9.out.on hal)
            have hnw := heap_alloc_new w8 (.cells #[.int .i64 (I.size : Int), .int .i64 (O2.size : Int), .int .i64 (H : Int), .int .i64 L] 53)
            clear hb8 hal HCT HA7
            go_upto_region 14 with fail
            generalize w8.alloc (.cells #[.int .i64 (I.size : Int), .int .i64 (O2.size : Int), .int .i64 (H : Int), .int .i64 L] 53) = w9 at *
            have r0 := cell_of_row w9 _ 0 _ _ _ hnw
            have r1 := cell_of_row w9 _ 1 _ _ _ hnw
            have r2 := cell_of_row w9 _ 2 _ _ _ hnw
            have r3 := cell_of_row w9 _ 3 _ _ _ hnw
            clear hnw
            go_wp2_with fail
            go_roundw
            case rel => exact ⟨k + 1, K2, U6, I, O2, by omega, by go_num, rfl, rfl, HA9, HKP⟩
            case measure => simp [intOf]; omega
          · obtain rfl : t1 = ⟨#[]⟩ := HSK.out hk3
            have dk3 : (kd == 3) = false := by simpa using hk3
            obtain ⟨O2, hO2⟩ : ∃ O2, O = O2 := ⟨_, rfl⟩
            obtain ⟨I2, hI2⟩ : ∃ I2, I = I2 := ⟨_, rfl⟩
            rw [cat_none, Lk.none_r, hI2, hO2] at HKP
            subst hI2
            subst hO2
            clear hTK hTL hIZ hlo HIZ HSK HNN hk0 hk3
            go_upto_region 13 with fail
            have HKC := Lib.hid (show Ch.Kept K2.c I O ∧ K2.sent = I.size ∧ K2.got = O.size from ⟨HKP.out.c, HKP.out.sent, HKP.out.got⟩)
            have HCT := Lib.hid (lcounts HA7.out.1)
            have hbal := HA7.out.bal
            have hnm := HA7.out.nums
            rw [HKC.out.2.1, HKC.out.2.2] at HCT hbal hnm
            have hpf := Ch.kept_pf HKC.out.1
            obtain ⟨hle, hex⟩ := hpf
            obtain ⟨H, hH⟩ : ∃ H : Nat, K2.c.held = H := ⟨_, rfl⟩
            obtain ⟨L, hL⟩ : ∃ L : Int, K2.c.lost = L := ⟨_, rfl⟩
            rw [hH, hL] at HCT hbal
            have hL0 : 0 ≤ L := by rw [← hL]; exact HA7.out.lost0
            have q2 : IntKind.i64.wrap ((O.size : Int) + (H : Int)) = O.size + H := wrap_id (by omega) (by omega)
            have q3 : IntKind.i64.wrap ((O.size : Int) + (H : Int) + L) = I.size := by rw [← hbal]; exact wrap_id (by omega) (by omega)
            have q4 : IntKind.i64.wrap ((O.size : Int) + ((H : Int) + L)) = I.size := by rw [← Int.add_assoc]; exact q3
            have dl : decide ((I.size : Int) < O.size) = false := decide_eq_false (by omega)
            clear hbal hnm hL0 hH hL HKC
            go_wp2_with fail
            refine HCT.out.mono ?_
            rintro e w8 ⟨rfl, hb8⟩
            have HA9 := Lib.hid (HA7.out.on hb8)
            have hal : Below w8.heap.size w8 (w8.alloc (.cells #[.int .i64 (I.size : Int), .int .i64 (O.size : Int), .int .i64 (H : Int), .int .i64 L] 53)) := (Below.refl _ _).alloc (Nat.le_refl _) _
            have HA9 := Lib.hid (HA9.out.on hal)
            have hnw := heap_alloc_new w8 (.cells #[.int .i64 (I.size : Int), .int .i64 (O.size : Int), .int .i64 (H : Int), .int .i64 L] 53)
            clear hb8 hal HCT HA7
            go_upto_region 14 with fail
            generalize w8.alloc (.cells #[.int .i64 (I.size : Int), .int .i64 (O.size : Int), .int .i64 (H : Int), .int .i64 L] 53) = w9 at *
            have r0 := cell_of_row w9 _ 0 _ _ _ hnw
            have r1 := cell_of_row w9 _ 1 _ _ _ hnw
            have r2 := cell_of_row w9 _ 2 _ _ _ hnw
            have r3 := cell_of_row w9 _ 3 _ _ _ hnw
            clear hnw
            go_wp2_with fail
            go_roundw
            case rel => exact ⟨k + 1, K2, U6, I, O, by omega, by go_num, rfl, rfl, HA9, HKP⟩
            case measure => simp [intOf]; omega
      · obtain rfl : k = m := by omega
        clear hlt hk
        go_wp2_with fail
        refine (lalive _).mono ?_
        rintro e w5 ⟨rfl, hb5⟩
        have HB5 := Lib.hid (HA.out.on hb5).2.2
        clear hb5 HA
        go_wp2_with fail
        go_ret
        exact ⟨rfl, HB5.out⟩
end linkCounts
end Go.Proofs.YtoiodcaohkfdjaaGreat

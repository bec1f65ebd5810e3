/-
  The walk of chicanelaw13.ConnKeeps: it returns true, whatever calls. Conditions: as each states.
-/
import Derived.Test.YtdighjgcnaajgaaGreatMT9
import Derived.Deep.CutRange
namespace Go.Proofs.YtdighjgcnaajgaaGreat
open Go.RowKit
namespace connKeeps
set_option maxRecDepth 100000 in
set_option maxHeartbeats 8000000 in
theorem no_new (pl : Option Addr) (nl dl : Nat) (l : List Tox) (seed room now : Int) (p : Option Addr) (m d : Nat) (w : World) (hl : l.length = nl) (hnd : nl ≤ dl) (hzl : ∀ t ∈ l, t.s.size ≤ 140737488351232) (hil : ToxIn w pl nl l) (hE : newLE l room ≠ 0) :
    Calls Tryz.prog 5 #[.agg #[.slice pl nl dl, .int .u64 seed, .int .i64 room, .int .i64 now], .slice p m d] w fun e w' => e = .returned (.bool true) ∧ Below w.heap.size w w' := by
  have hal : Below w.heap.size w (w.alloc (.cells #[.slice pl nl dl, .int .u64 seed, .int .i64 room, .int .i64 now] 25)) := (Below.refl _ _).alloc (Nat.le_refl _) _
  have HN := Lib.hid (knew_no pl nl dl l seed room now (w.alloc (.cells #[.slice pl nl dl, .int .u64 seed, .int .i64 room, .int .i64 now] 25)) hl hnd hzl (toxs_on hil hal) hE)
  have HA := Lib.hid hal
  have d1 : (newLE l room != 0) = true := by simpa using hE
  have d2 : decide (newLE l room = 0) = false := by simpa using hE
  generalize newLE l room = E at *
  clear hE hal hl hzl hil
  go_enter Tryz.func5, Tryz.ntmps5
  go_wp2_with fail
  refine HN.out.mono ?_
  rintro e w2 ⟨rfl, hb⟩
  have HB2 := Lib.hid (HA.out.trans (hb.mono HA.out.size))
  clear hb HN HA
  go_wp2_with fail
  refine (yalive _).mono ?_
  rintro e w3 ⟨rfl, hb⟩
  have HB3 := Lib.hid (HB2.out.trans (hb.mono HB2.out.size))
  clear hb
  go_wp2_with fail
  go_ret
  exact ⟨rfl, HB3.out⟩
set_option maxRecDepth 100000 in
set_option maxHeartbeats 16000000 in
theorem walk (pl : Option Addr) (nl dl : Nat) (l : List Tox) (seed room now : Int) (p : Option Addr) (m d : Nat) (os : List YOp) (w : World) (hl : l.length = nl) (hnd : nl ≤ dl) (hzl : ∀ t ∈ l, t.s.size ≤ 140737488351232) (hil : ToxIn w pl nl l) (hx : os.length = m) (hmd : m ≤ d) (hd : d ≤ 9223372036854775807) (hz : ∀ o ∈ os, o.s.size ≤ 140737488351232 ∧ o.t.s.size ≤ 140737488351232) (hj : YopsIn w p m os) :
    Calls Tryz.prog 5 #[.agg #[.slice pl nl dl, .int .u64 seed, .int .i64 room, .int .i64 now], .slice p m d] w fun e w' => e = .returned (.bool true) ∧ Below w.heap.size w w' := by
  by_cases hE : newLE l room ≠ 0
  · exact no_new pl nl dl l seed room now p m d w hl hnd hzl hil hE
  have hE0 : newLE l room = 0 := by omega
  have HX := Lib.hid hx
  have HJ := Lib.hid hj
  have HZ := Lib.hid hz
  have hal : Below w.heap.size w (w.alloc (.cells #[.slice pl nl dl, .int .u64 seed, .int .i64 room, .int .i64 now] 25)) := (Below.refl _ _).alloc (Nat.le_refl _) _
  have HN := Lib.hid (knew pl nl dl l seed room now (w.alloc (.cells #[.slice pl nl dl, .int .u64 seed, .int .i64 room, .int .i64 now] 25)) hl hnd hzl (toxs_on hil hal) hE0)
  have HAL := Lib.hid hal
  have hnew := heap_alloc_new w (.cells #[.slice pl nl dl, .int .u64 seed, .int .i64 room, .int .i64 now] 25)
  clear hE hE0 hal hl hzl hil hx hz hj
  go_enter Tryz.func5, Tryz.ntmps5
  go_wp2_with fail
  refine HN.out.mono ?_
  rintro e w2 ⟨g, V, rfl, h1, hm1, hm2⟩
  have hnw2 := (h1.2.2.block _ (gb.blk_lt hnew)).trans hnew
  have hs0 := cell_of_row w2 w.heap.size 0 _ _ _ hnw2
  have hs1 := cell_of_row w2 w.heap.size 1 _ _ _ hnw2
  have hs2 := cell_of_row w2 w.heap.size 2 _ _ _ hnw2
  have hs3 := cell_of_row w2 w.heap.size 3 _ _ _ hnw2
  have HNW := Lib.hid hnw2
  have HA2 := Lib.hid (h1.base HAL.out)
  have HMK := Lib.hid (And.intro hm1 hm2)
  have HK0 := Lib.hid (show (Cn.newC l seed room now l.length).A = Lk.newL l 0 seed room now ∧ (Cn.newC l seed room now l.length).B = Lk.newL l 1 seed room now from ⟨rfl, rfl⟩)
  clear h1 hm1 hm2 HN HAL hnew hnw2
  generalize Cn.newC l seed room now l.length = k0 at *
  go_wp2_with fail
  refine (kfew_any pl nl dl seed room now p m d os _ HX.out hmd hd HZ.out (yops_on HJ.out HA2.out.2.2)).mono ?_
  rintro e w3 ⟨b, rfl, hf, hb⟩
  have HA3 := Lib.hid (HA2.out.on hb)
  have HF := Lib.hid hf
  clear hb hf HA2 HNW hs0 hs1 hs2 hs3 hmd hd
  cases b with
  | false =>
    clear HF
    go_wp2_with fail
    refine (yalive _).mono ?_
    rintro e w5 ⟨rfl, hb5⟩
    have HB5 := Lib.hid (HA3.out.on hb5).2.2
    clear hb5
    go_wp2_with fail
    go_ret
    exact ⟨rfl, HB5.out⟩
  | true =>
    obtain ⟨hnl, hm, htt⟩ := HF.out rfl
    have HT := Lib.hid htt
    clear HF htt
    have HKP0 := Lib.hid (show k0.Kp ⟨#[]⟩ ⟨#[]⟩ ⟨#[]⟩ ⟨#[]⟩ from by unfold Cn.Kp; rw [HK0.out.1, HK0.out.2]; exact ⟨newL_kept HMK.out.1, newL_kept HMK.out.2⟩)
    obtain ⟨hb2, _, hn2⟩ := allocs [(.cells #[.string ⟨#[]⟩, .string ⟨#[]⟩] 58), (.cells #[.string ⟨#[]⟩, .string ⟨#[]⟩] 58)] w3
    have h3 := hn2 0 (by simp)
    have h4 := hn2 1 (by simp)
    simp only [Nat.add_zero, List.getElem_cons_zero, List.getElem_cons_succ] at h3 h4
    have HM0 := Lib.hid (show KpM w ((w3.alloc (.cells #[.string ⟨#[]⟩, .string ⟨#[]⟩] 58)).alloc (.cells #[.string ⟨#[]⟩, .string ⟨#[]⟩] 58)) V g k0 128 w3.heap.size (w3.heap.size + 1) ⟨#[]⟩ ⟨#[]⟩ ⟨#[]⟩ ⟨#[]⟩ from
      ⟨HA3.out.on hb2, h3, h4, HA3.out.new (Nat.le_refl _), HA3.out.new (by omega), by omega, HA3.out.2.2.size, by have := HA3.out.2.2.size; omega⟩)
    clear hb2 hn2 h3 h4 HA3 HMK HK0
    go_wp2_with fail
    generalize (w3.alloc (.cells #[.string ⟨#[]⟩, .string ⟨#[]⟩] 58)).alloc (.cells #[.string ⟨#[]⟩, .string ⟨#[]⟩] 58) = wE at *
    generalize w3.heap.size + 1 = gu at *
    generalize w3.heap.size = gi at *
    go_loopw [10, 11, 12, 13, 43] (fun _ _ _ _ i wr => ∃ (k : Nat) (K : Cn) (U1 : Own) (I0 I1 O0 O1 : ByteArray), k ≤ m ∧ i = .int .i64 k ∧ Hid (KpM w wr U1 g K (128 + ytot (os.take k)) gi gu I0 I1 O0 O1) ∧ Hid (K.Kp I0 O0 I1 O1)) (fun _ _ _ _ i _ => m - (intOf i).toNat)
    case atStart => exact ⟨0, k0, V, ⟨#[]⟩, ⟨#[]⟩, ⟨#[]⟩, ⟨#[]⟩, by omega, rfl, HM0, HKP0⟩
    case round =>
      clear HM0 HKP0
      obtain ⟨k, K, U1, I0, I1, O0, O1, hk, rfl, HA, HKP⟩ := hrel
      by_cases hlt : k < m
      · obtain ⟨b, o, rfl, hcell⟩ := yops_on HJ.out HA.out.hd.2.2 (by omega)
        obtain ⟨c0, c1, c2, c3, c4, c5, c6, c7, c8, c9, c10, c11⟩ := hcell k hlt
        have hzk := HZ.out _ (yat_of os k (by rw [HX.out]; exact hlt))
        have HTK := Lib.hid (ytot_step os k m HX.out hlt _ rfl)
        have HTL := Lib.hid (Nat.le_trans (ytot_take_le os (k + 1)) HT.out)
        generalize os.getD k noYop = op at *
        obtain ⟨K2, hK2⟩ : ∃ K2, K.doK op = K2 := ⟨_, rfl⟩
        obtain ⟨a1, ha1⟩ : ∃ a1, K.ansK op = a1 := ⟨_, rfl⟩
        have hoks := krep_ok HA.out.hd.1
        have hok : K.Okk := ⟨hoks.1, hoks.2.1⟩
        have hkp := Cn.kp_do hok HKP.out op
        have hn := fun (h0 : op.kind = 0) (hw : op.way = 0 ∨ op.way = 1) => Cn.kp_n hok h0 hw
        rw [hK2, ha1] at hkp
        rw [ha1] at hn
        have HDs := Lib.hid (fun (W : World) (hb : Below wr.heap.size wr W) => (show Calls Tryz.prog 16 #[ptr g, yopV op] W (KDoe w W U1 g K2 a1 (128 + ytot (os.take (k + 1)))) from by
          rw [← hK2, ← ha1]
          exact kdoes (HA.out.hd.on hb) op (by unfold maxLen; have := hzk.2; omega) (by have := HTK.out; omega) (by have := HTL.out; omega)))
        obtain ⟨kd, wy, T, N, N2, b0, tx⟩ := op
        obtain ⟨us, uk, uu, uo, ua, ub⟩ := tx
        unfold yopV at HDs
        simp only at c0 c1 c2 c3 c4 c5 c6 c7 c8 c9 c10 c11 HTK HDs hkp hn
        rw [← Nat.add_assoc] at c1 c2 c3 c4 c5 c6 c7 c8 c9 c10 c11
        have hal : Below wr.heap.size wr (wr.alloc (.cells #[.int .i64 kd, .int .i64 wy, .int .i64 T, .int .i64 N, .int .i64 N2, .string b0, .string us, .int .i64 uk, .bool uu, .int .i64 uo, .int .i64 ua, .int .i64 ub] 48)) := (Below.refl _ _).alloc (Nat.le_refl _) _
        have HA4 := Lib.hid (HA.out.on hal)
        have HO4 := Lib.hid (heap_alloc_new wr (.cells #[.int .i64 kd, .int .i64 wy, .int .i64 T, .int .i64 N, .int .i64 N2, .string b0, .string us, .int .i64 uk, .bool uu, .int .i64 uo, .int .i64 ua, .int .i64 ub] 48))
        have HU4 := Lib.hid (HA.out.hd.new (Nat.le_refl _))
        have HD4 := Lib.hid (HDs.out _ hal)
        have HLL := Lib.hid (show gi < wr.heap.size ∧ gu < wr.heap.size from ⟨gb.blk_lt HA.out.bi, gb.blk_lt HA.out.bu⟩)
        have HKQ := Lib.hid hkp
        have HNN := Lib.hid hn
        clear hkp hn hok hoks hal HA HDs hcell hzk hK2 ha1 HKP
        go_upto_region 8 with fail
        generalize wr.alloc (.cells #[.int .i64 kd, .int .i64 wy, .int .i64 T, .int .i64 N, .int .i64 N2, .string b0, .string us, .int .i64 uk, .bool uu, .int .i64 uo, .int .i64 ua, .int .i64 ub] 48) = w4 at *
        generalize wr.heap.size = go at *
        clear c0 c1 c2 c3 c4 c5 c6 c7 c8 c9 c10 c11
        have o0 := cell_of_row w4 go 0 _ _ _ HO4.out
        have o1 := cell_of_row w4 go 1 _ _ _ HO4.out
        have o2 := cell_of_row w4 go 2 _ _ _ HO4.out
        have o3 := cell_of_row w4 go 3 _ _ _ HO4.out
        have o4 := cell_of_row w4 go 4 _ _ _ HO4.out
        have o5 := cell_of_row w4 go 5 _ _ _ HO4.out
        have o6 := cell_of_row w4 go 6 _ _ _ HO4.out
        have o7 := cell_of_row w4 go 7 _ _ _ HO4.out
        have o8 := cell_of_row w4 go 8 _ _ _ HO4.out
        have o9 := cell_of_row w4 go 9 _ _ _ HO4.out
        have o10 := cell_of_row w4 go 10 _ _ _ HO4.out
        have o11 := cell_of_row w4 go 11 _ _ _ HO4.out
        go_wp2_with fail
        refine HD4.out.mono ?_
        rintro e w6 ⟨rfl, U6, h6, hr6⟩
        obtain ⟨n1, ⟨xb, xe⟩, ⟨yb, ye⟩, e1⟩ := a1
        unfold yanV
        dsimp only
        have hk6 : w6.heap[go]? = _ ∧ ¬ U6 go := ⟨(hr6 go (gb.blk_lt HO4.out) HU4.out).1.trans HO4.out, (hr6 go (gb.blk_lt HO4.out) HU4.out).2⟩
        have hal : Below w6.heap.size w6 (w6.alloc (.cells #[.int .i64 n1, .string xb, .int .i64 xe, .string yb, .int .i64 ye, .int .i64 e1] 53)) := (Below.refl _ _).alloc (Nat.le_refl _) _
        have h6m := HA4.out.does h6 hr6
        have HA7 := Lib.hid (h6m.on hal)
        have HO7 := Lib.hid ((hal.block _ (gb.blk_lt hk6.1)).trans hk6.1)
        have HG7 := Lib.hid (heap_alloc_new w6 (.cells #[.int .i64 n1, .string xb, .int .i64 xe, .string yb, .int .i64 ye, .int .i64 e1] 53))
        have HLG := Lib.hid (show gi ≠ w6.heap.size ∧ gu ≠ w6.heap.size ∧ w6.heap.size ≠ gi ∧ w6.heap.size ≠ gu from ⟨Nat.ne_of_lt (gb.blk_lt h6m.bi), Nat.ne_of_lt (gb.blk_lt h6m.bu), Nat.ne_of_gt (gb.blk_lt h6m.bi), Nat.ne_of_gt (gb.blk_lt h6m.bu)⟩)
        clear hal h6 h6m hr6 hk6 HD4 HA4 HO4 HU4 HLL o0 o1 o2 o3 o4 o5 o6 o7 o8 o9 o10 o11
        simp only at HKQ HNN
        go_upto_region 9 with fail
        generalize w6.alloc (.cells #[.int .i64 n1, .string xb, .int .i64 xe, .string yb, .int .i64 ye, .int .i64 e1] 53) = w7 at *
        generalize w6.heap.size = ga at *
        obtain ⟨C, hC⟩ : ∃ C, decide (kd = 0 ∧ (wy = 0 ∨ wy = 1)) = C := ⟨_, rfl⟩
        have HCC := Lib.hid hC
        clear hC
        go_cut [43, 75] from 43 to 158 (fun v43 v75 wc => v43 = .int .i64 k ∧ v75 = .bool C ∧ wc = w7)
        case first =>
          have q0 := cell_of_row w7 go 0 _ _ _ HO7.out
          have q1 := cell_of_row w7 go 1 _ _ _ HO7.out
          have q5 := cell_of_row w7 go 5 _ _ _ HO7.out
          have y0 := cell_of_row w7 ga 0 _ _ _ HG7.out
          have hc := HCC.out
          clear HCC
          by_cases hw : kd = 0 ∧ (wy = 0 ∨ wy = 1)
          · obtain rfl : C = true := by rw [← hc]; exact decide_eq_true hw
            clear hc
            obtain ⟨rfl, hw⟩ := hw
            obtain ⟨hn0, hn1⟩ := HNN.out rfl hw
            have d0 : decide (0 ≤ n1) = true := decide_eq_true hn0
            have d1 : decide (n1 ≤ (b0.size : Int)) = true := decide_eq_true hn1
            rcases hw with rfl | rfl
            · go_wp2_with fail
              go_meet
              exact ⟨rfl, rfl, rfl⟩
            · go_wp2_with fail
              go_meet
              exact ⟨rfl, rfl, rfl⟩
          · obtain rfl : C = false := by rw [← hc]; exact decide_eq_false hw
            clear hc
            by_cases k0 : kd = 0
            · subst k0
              by_cases hw0 : wy < 0
              · have d1 : decide (0 ≤ wy) = false := decide_eq_false (by omega)
                clear hw hw0
                go_wp2_with fail
                go_meet
                exact ⟨rfl, rfl, rfl⟩
              · have d1 : decide (0 ≤ wy) = true := decide_eq_true (by omega)
                have d2 : decide (wy ≤ 1) = false := decide_eq_false (by omega)
                clear hw hw0
                go_wp2_with fail
                go_meet
                exact ⟨rfl, rfl, rfl⟩
            · have d1 : (kd == 0) = false := by simpa using k0
              have d2 : decide (kd = 0) = false := by simpa using k0
              clear hw k0
              go_wp2_with fail
              go_meet
              exact ⟨rfl, rfl, rfl⟩
        case rest =>
        obtain ⟨rfl, rfl, hwc⟩ := hcut
        rw [hwc]
        clear hwc wc
        go_upto_if 75 with fail
        go_cut [43] from 43 to 158 (fun v43 wc => v43 = .int .i64 k ∧ ∃ J0 J1, KpM w wc U6 g K2 (128 + ytot (os.take (k + 1))) gi gu J0 J1 O0 O1 ∧ K2.Kp J0 (O0 ++ xb) J1 (O1 ++ yb) ∧ wc.heap[ga]? = some (yanC ⟨n1, ⟨xb, xe⟩, ⟨yb, ye⟩, e1⟩))
        case first =>
          have q1 := cell_of_row w7 go 1 _ _ _ HO7.out
          have q5 := cell_of_row w7 go 5 _ _ _ HO7.out
          have y0 := cell_of_row w7 ga 0 _ _ _ HG7.out
          obtain ⟨⟨z0, z1⟩, ⟨f0, f1⟩, hgl⟩ := strs_at HA7.out.bi
          have HQ7 := Lib.hid (show w7.heap[ga]? = some (yanC ⟨n1, ⟨xb, xe⟩, ⟨yb, ye⟩, e1⟩) from HG7.out)
          clear HO7 HG7
          have hsz : (I0 ++ (if kd = 0 ∧ wy = 0 then b0.extract 0 n1.toNat else none0)).size ≤ 400000 ∧ (I1 ++ (if kd = 0 ∧ wy = 1 then b0.extract 0 n1.toNat else none0)).size ≤ 400000 := by
            have a0 := krep_nums HA7.out.hd.1 0
            have a1 := krep_nums HA7.out.hd.1 1
            have b0 : K2.A.sent = _ := HKQ.out.1.sent
            have b1 : K2.B.sent = _ := HKQ.out.2.sent
            have e0 : (K2.lk 0).sent = K2.A.sent := rfl
            have e1 : (K2.lk 1).sent = K2.B.sent := rfl
            omega
          have hc := HCC.out
          clear HCC
          cases C with
          | true =>
            obtain ⟨rfl, hw⟩ := of_decide_eq_true hc
            clear hc
            obtain ⟨hn0, hn1⟩ := HNN.out rfl hw
            have d0 : decide (0 ≤ n1) = true := decide_eq_true hn0
            have d1 : decide (n1 ≤ (b0.size : Int)) = true := decide_eq_true hn1
            rcases hw with rfl | rfl
            · rw [if_pos (show (0 : Int) = 0 ∧ (0 : Int) = 0 from ⟨rfl, rfl⟩)] at hsz HKQ
              rw [if_neg (show ¬ ((0 : Int) = 0 ∧ (0 : Int) = 1) by decide), Lk.none_r] at HKQ
              obtain ⟨J, hJ⟩ : ∃ J, I0 ++ b0.extract 0 n1.toNat = J := ⟨_, rfl⟩
              have r9 := fun W => kat_runs hJ (by have := hsz.1; rw [kat_size] at this; omega) (by have := hsz.1; rw [kat_size] at this; omega) W
              rw [hJ] at HKQ
              have HS7 := Lib.hid ((HA7.out.on (Below.refl _ w7).drew).setI0 J)
              have HQ8 := Lib.hid ((Below.heap_setCell w7.drew ⟨gi, 0, none⟩ (.string J) _ HLG.out.2.2.1).trans HQ7.out)
              clear hsz hJ HA7 HNN HQ7
              go_wp2_with fail
              go_region
              go_wp2_with fail
              go_meet
              exact ⟨rfl, J, I1, HS7.out, HKQ.out, HQ8.out⟩
            · rw [if_pos (show (0 : Int) = 0 ∧ (1 : Int) = 1 from ⟨rfl, rfl⟩)] at hsz HKQ
              rw [if_neg (show ¬ ((0 : Int) = 0 ∧ (1 : Int) = 0) by decide), Lk.none_r] at HKQ
              obtain ⟨J, hJ⟩ : ∃ J, I1 ++ b0.extract 0 n1.toNat = J := ⟨_, rfl⟩
              have r9 := fun W => kat_runs hJ (by have := hsz.2; rw [kat_size] at this; omega) (by have := hsz.2; rw [kat_size] at this; omega) W
              rw [hJ] at HKQ
              have HS7 := Lib.hid ((HA7.out.on (Below.refl _ w7).drew).setI1 J)
              have HQ8 := Lib.hid ((Below.heap_setCell w7.drew ⟨gi, 1, none⟩ (.string J) _ HLG.out.2.2.1).trans HQ7.out)
              clear hsz hJ HA7 HNN HQ7
              go_wp2_with fail
              go_region
              go_wp2_with fail
              go_meet
              exact ⟨rfl, I0, J, HS7.out, HKQ.out, HQ8.out⟩
          | false =>
            have hw := of_decide_eq_false hc
            rw [if_neg (show ¬ (kd = 0 ∧ wy = 0) by omega), if_neg (show ¬ (kd = 0 ∧ wy = 1) by omega), Lk.none_r, Lk.none_r] at HKQ
            clear hsz HNN z0 z1 f0 f1 hgl hc hw
            go_wp2_with fail
            go_meet
            exact ⟨rfl, I0, I1, HA7.out, HKQ.out, HQ7.out⟩
        case rest =>
          obtain ⟨rfl, J0, J1, hm7, hkp, hq⟩ := hcut
          clear HA7 HG7 HO7 HKQ HNN HTK HTL HCC
          obtain ⟨P0, hP0⟩ : ∃ P0, O0 ++ xb = P0 := ⟨_, rfl⟩
          obtain ⟨P1, hP1⟩ : ∃ P1, O1 ++ yb = P1 := ⟨_, rfl⟩
          have hsz : O0.size ≤ 1100000 ∧ xb.size ≤ 1100000 ∧ O1.size ≤ 1100000 ∧ yb.size ≤ 1100000 ∧ J0.size ≤ 400000 ∧ J1.size ≤ 400000 := by
            have a0 := krep_nums hm7.hd.1 0
            have a1 := krep_nums hm7.hd.1 1
            have b0 : K2.A.got = _ := hkp.1.got
            have b1 : K2.B.got = _ := hkp.2.got
            have b2 : K2.A.sent = _ := hkp.1.sent
            have b3 : K2.B.sent = _ := hkp.2.sent
            rw [kat_size] at b0 b1
            have e0 : (K2.lk 0).got = K2.A.got := rfl
            have e1 : (K2.lk 1).got = K2.B.got := rfl
            have e2 : (K2.lk 0).sent = K2.A.sent := rfl
            have e3 : (K2.lk 1).sent = K2.B.sent := rfl
            omega
          have HR0 := Lib.hid (kat_runs hP0 hsz.1 hsz.2.1)
          have HR1 := Lib.hid (kat_runs hP1 hsz.2.2.1 hsz.2.2.2.1)
          have HSJ := Lib.hid hsz.2.2.2.2
          rw [hP0, hP1] at hkp
          have HKP2 := Lib.hid hkp
          have hbl := krep_ok hm7.hd.1
          have hlo := krep_lost hm7.hd.1
          have HC0 := Lib.hid (And.intro (kp_cnt hkp.1 hbl.1.2) hlo.1)
          have HC1 := Lib.hid (And.intro (kp_cnt hkp.2 hbl.2.1.2) hlo.2)
          have HW0 := Lib.hid (And.intro hm7 hq)
          clear hm7 hq hkp hP0 hP1 hsz hbl hlo
          go_wp2_with fail
          go_loopw [12, 13, 87] (fun _ _ iv wx => ∃ j : Nat, j ≤ 2 ∧ iv = .int .i64 (j : Int) ∧ Hid (KpM w wx U6 g K2 (128 + ytot (os.take (k + 1))) gi gu J0 J1 (if j = 0 then O0 else P0) (if j ≤ 1 then O1 else P1) ∧ wx.heap[ga]? = some (yanC ⟨n1, ⟨xb, xe⟩, ⟨yb, ye⟩, e1⟩))) (fun _ _ iv _ => 2 - (intOf iv).toNat)
          case atStart => exact ⟨0, by decide, rfl, HW0⟩
          case round =>
            clear HW0
            obtain ⟨j, hj, rfl, HW1⟩ := hrel
            rcases (show j = 0 ∨ j = 1 ∨ j = 2 by omega) with rfl | rfl | rfl
            · rw [show ((0 : Nat) : Int) = 0 from rfl]
              have hm : KpM w wr U6 g K2 (128 + ytot (os.take (k + 1))) gi gu J0 J1 O0 O1 := HW1.out.1
              obtain ⟨⟨y0, y1, y2, y3, y4, y5⟩, _, hgl⟩ := yan_at HW1.out.2
              simp only at y0 y1 y2 y3 y4 y5
              obtain ⟨⟨z0, z1⟩, ⟨f0, f1⟩, hul⟩ := strs_at hm.bu
              have HS := Lib.hid ((hm.setO0 P0).on (Below.refl _ (wr.setCell ⟨gu, 0, none⟩ (.string P0))).drew)
              have HQ := Lib.hid (show (wr.setCell ⟨gu, 0, none⟩ (.string P0)).drew.heap[ga]? = _ from (Below.heap_setCell wr ⟨gu, 0, none⟩ (.string P0) _ HLG.out.2.2.2).trans HW1.out.2)
              have r9 := HR0.out
              clear HW1 hm
              go_wp2_with fail
              go_region
              go_upto_region 15 with fail
              generalize (wr.setCell ⟨gu, 0, none⟩ (.string P0)).drew = wS at *
              clear z0 z1 f0 f1 hul y0 y1 y2 y3 y4 y5 hgl r9
              have HCT := Lib.hid (icounts HS.out.hd.1 0)
              have hcn : K2.cnt 0 = cntV K2.A := rfl
              have h0 := HC0.out
              rw [hcn, h0.1.1] at HCT
              obtain ⟨H, hH⟩ : ∃ H : Nat, K2.A.c.held = H := ⟨_, rfl⟩
              obtain ⟨L, hL⟩ : ∃ L : Int, K2.A.c.lost = L := ⟨_, rfl⟩
              rw [hH, hL] at HCT h0
              obtain ⟨⟨_, hbal, hle, hex⟩, hL0⟩ := h0
              have hJ := HSJ.out.1
              have q2 : IntKind.i64.wrap ((P0.size : Int) + (H : Int)) = P0.size + H := wrap_id (by omega) (by omega)
              have q3 : IntKind.i64.wrap ((P0.size : Int) + (H : Int) + L) = J0.size := by rw [← hbal]; exact wrap_id (by omega) (by omega)
              have q4 : IntKind.i64.wrap ((P0.size : Int) + ((H : Int) + L)) = J0.size := by rw [← Int.add_assoc]; exact q3
              have dl : decide ((J0.size : Int) < P0.size) = false := decide_eq_false (by omega)
              have hsz : J0.size < 9223372036854775808 := by omega
              clear hbal hL0 hH hL hcn hJ
              go_wp2_with fail
              refine HCT.out.mono ?_
              rintro e w8 ⟨rfl, hb8⟩
              have hal : Below w8.heap.size w8 (w8.alloc (.cells #[.int .i64 (J0.size : Int), .int .i64 (P0.size : Int), .int .i64 (H : Int), .int .i64 L] 60)) := (Below.refl _ _).alloc (Nat.le_refl _) _
              have HS9 := Lib.hid (HS.out.on (below_two hb8 hal))
              have HQ9 := Lib.hid (((below_two hb8 hal).block _ (gb.blk_lt HQ.out)).trans HQ.out)
              have hnw := heap_alloc_new w8 (.cells #[.int .i64 (J0.size : Int), .int .i64 (P0.size : Int), .int .i64 (H : Int), .int .i64 L] 60)
              clear hb8 hal HCT HS HQ
              go_upto_region 16 with fail
              generalize w8.alloc (.cells #[.int .i64 (J0.size : Int), .int .i64 (P0.size : Int), .int .i64 (H : Int), .int .i64 L] 60) = w9 at *
              generalize w8.heap.size = gc9 at *
              obtain ⟨⟨z0, z1⟩, _⟩ := strs_at HS9.out.bu
              obtain ⟨⟨x0, x1⟩, _⟩ := strs_at HS9.out.bi
              have t0 := cell_of_row w9 gc9 0 _ _ _ hnw
              have t1 := cell_of_row w9 gc9 1 _ _ _ hnw
              have t2 := cell_of_row w9 gc9 2 _ _ _ hnw
              have t3 := cell_of_row w9 gc9 3 _ _ _ hnw
              clear hnw HKP2 HC0 HC1 HR0 HR1
              go_wp2_with fail
              go_quiet (fail)
              have HRL := Lib.hid (And.intro (show KpM w (w9.drewN nq) U6 g K2 (128 + ytot (os.take (k + 1))) gi gu J0 J1 (if 1 = 0 then O0 else P0) (if 1 ≤ 1 then O1 else P1) from HS9.out.on (gc.below_drewN w9 nq)) (((gc.below_drewN w9 nq).block _ (gb.blk_lt HQ9.out)).trans HQ9.out))
              generalize w9.drewN nq = w10 at *
              clear HS9 HQ9
              go_wp2_with fail
              go_roundw
              case rel => exact ⟨1, by decide, by first | rfl | go_num, HRL⟩
              case measure => simp [intOf]
            · rw [show ((1 : Nat) : Int) = 1 from rfl]
              have hm : KpM w wr U6 g K2 (128 + ytot (os.take (k + 1))) gi gu J0 J1 P0 O1 := HW1.out.1
              obtain ⟨⟨y0, y1, y2, y3, y4, y5⟩, _, hgl⟩ := yan_at HW1.out.2
              simp only at y0 y1 y2 y3 y4 y5
              obtain ⟨⟨z0, z1⟩, ⟨f0, f1⟩, hul⟩ := strs_at hm.bu
              have HS := Lib.hid ((hm.setO1 P1).on (Below.refl _ (wr.setCell ⟨gu, 1, none⟩ (.string P1))).drew)
              have HQ := Lib.hid (show (wr.setCell ⟨gu, 1, none⟩ (.string P1)).drew.heap[ga]? = _ from (Below.heap_setCell wr ⟨gu, 1, none⟩ (.string P1) _ HLG.out.2.2.2).trans HW1.out.2)
              have r9 := HR1.out
              clear HW1 hm
              go_wp2_with fail
              go_region
              go_upto_region 15 with fail
              generalize (wr.setCell ⟨gu, 1, none⟩ (.string P1)).drew = wS at *
              clear z0 z1 f0 f1 hul y0 y1 y2 y3 y4 y5 hgl r9
              have HCT := Lib.hid (icounts HS.out.hd.1 1)
              have hcn : K2.cnt 1 = cntV K2.B := rfl
              have h0 := HC1.out
              rw [hcn, h0.1.1] at HCT
              obtain ⟨H, hH⟩ : ∃ H : Nat, K2.B.c.held = H := ⟨_, rfl⟩
              obtain ⟨L, hL⟩ : ∃ L : Int, K2.B.c.lost = L := ⟨_, rfl⟩
              rw [hH, hL] at HCT h0
              obtain ⟨⟨_, hbal, hle, hex⟩, hL0⟩ := h0
              have hJ := HSJ.out.2
              have q2 : IntKind.i64.wrap ((P1.size : Int) + (H : Int)) = P1.size + H := wrap_id (by omega) (by omega)
              have q3 : IntKind.i64.wrap ((P1.size : Int) + (H : Int) + L) = J1.size := by rw [← hbal]; exact wrap_id (by omega) (by omega)
              have q4 : IntKind.i64.wrap ((P1.size : Int) + ((H : Int) + L)) = J1.size := by rw [← Int.add_assoc]; exact q3
              have dl : decide ((J1.size : Int) < P1.size) = false := decide_eq_false (by omega)
              have hsz : J1.size < 9223372036854775808 := by omega
              clear hbal hL0 hH hL hcn hJ
              go_wp2_with fail
              refine HCT.out.mono ?_
              rintro e w8 ⟨rfl, hb8⟩
              have hal : Below w8.heap.size w8 (w8.alloc (.cells #[.int .i64 (J1.size : Int), .int .i64 (P1.size : Int), .int .i64 (H : Int), .int .i64 L] 60)) := (Below.refl _ _).alloc (Nat.le_refl _) _
              have HS9 := Lib.hid (HS.out.on (below_two hb8 hal))
              have HQ9 := Lib.hid (((below_two hb8 hal).block _ (gb.blk_lt HQ.out)).trans HQ.out)
              have hnw := heap_alloc_new w8 (.cells #[.int .i64 (J1.size : Int), .int .i64 (P1.size : Int), .int .i64 (H : Int), .int .i64 L] 60)
              clear hb8 hal HCT HS HQ
              go_upto_region 16 with fail
              generalize w8.alloc (.cells #[.int .i64 (J1.size : Int), .int .i64 (P1.size : Int), .int .i64 (H : Int), .int .i64 L] 60) = w9 at *
              generalize w8.heap.size = gc9 at *
              obtain ⟨⟨z0, z1⟩, _⟩ := strs_at HS9.out.bu
              obtain ⟨⟨x0, x1⟩, _⟩ := strs_at HS9.out.bi
              have t0 := cell_of_row w9 gc9 0 _ _ _ hnw
              have t1 := cell_of_row w9 gc9 1 _ _ _ hnw
              have t2 := cell_of_row w9 gc9 2 _ _ _ hnw
              have t3 := cell_of_row w9 gc9 3 _ _ _ hnw
              clear hnw HKP2 HC0 HC1 HR0 HR1
              go_wp2_with fail
              go_quiet (fail)
              have HRL := Lib.hid (And.intro (show KpM w (w9.drewN nq) U6 g K2 (128 + ytot (os.take (k + 1))) gi gu J0 J1 (if 2 = 0 then O0 else P0) (if 2 ≤ 1 then O1 else P1) from HS9.out.on (gc.below_drewN w9 nq)) (((gc.below_drewN w9 nq).block _ (gb.blk_lt HQ9.out)).trans HQ9.out))
              generalize w9.drewN nq = w10 at *
              clear HS9 HQ9
              go_wp2_with fail
              go_roundw
              case rel => exact ⟨2, by decide, by first | rfl | go_num, HRL⟩
              case measure => simp [intOf]
            · rw [show ((2 : Nat) : Int) = 2 from rfl]
              have HKM := Lib.hid (show KpM w _ U6 g K2 (128 + ytot (os.take (k + 1))) gi gu J0 J1 P0 P1 from HW1.out.1)
              clear HW1 HC0 HC1 HR0 HR1
              go_wp2_with fail
              go_roundw
              case rel => exact ⟨k + 1, K2, U6, J0, J1, P0, P1, by omega, by go_num, HKM, HKP2⟩
              case measure => simp [intOf]; omega
      · obtain rfl : k = m := by omega
        clear hlt hk
        go_wp2_with fail
        refine (yalive _).mono ?_
        rintro e w5 ⟨rfl, hb5⟩
        have HB5 := Lib.hid (HA.out.hd.on hb5).2.2
        clear hb5 HA
        go_wp2_with fail
        go_ret
        exact ⟨rfl, HB5.out⟩
end connKeeps
end Go.Proofs.YtdighjgcnaajgaaGreat

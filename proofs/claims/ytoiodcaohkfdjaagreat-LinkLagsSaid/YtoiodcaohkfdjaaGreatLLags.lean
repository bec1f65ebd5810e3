/-
  The walk of chicanelaw12.LinkLags: it returns true, whatever calls. Conditions: as each states.
-/
import Derived.Test.YtoiodcaohkfdjaaGreatMP50
namespace Go.Proofs.YtoiodcaohkfdjaaGreat
open Go.RowKit
namespace linkLags
set_option maxRecDepth 100000 in
set_option maxHeartbeats 8000000 in
theorem no_new (pl : Option Addr) (nl dl : Nat) (l : List Tox) (up : Bool) (seed room : Int) (p : Option Addr) (m d : Nat) (w : World) (hl : l.length = nl) (hnd : nl ≤ dl) (hzl : ∀ t ∈ l, t.s.size ≤ 140737488351232) (hil : ToxIn w pl nl l) (hE : newLE l room ≠ 0) :
    Calls Tryz.prog 7 #[.agg #[.slice pl nl dl, .bool up, .int .u64 seed, .int .i64 room], .slice p m d] w fun e w' => e = .returned (.bool true) ∧ Below w.heap.size w w' := by
  have hal : Below w.heap.size w (w.alloc (.cells #[.slice pl nl dl, .bool up, .int .u64 seed, .int .i64 room] 25)) := (Below.refl _ _).alloc (Nat.le_refl _) _
  have HN := Lib.hid (lnew_no pl nl dl l up seed room 0 (w.alloc (.cells #[.slice pl nl dl, .bool up, .int .u64 seed, .int .i64 room] 25)) hl hnd hzl (toxs_on hil hal) hE)
  have HA := Lib.hid hal
  have d1 : (newLE l room != 0) = true := by simpa using hE
  have d2 : decide (newLE l room = 0) = false := by simpa using hE
  generalize newLE l room = E at *
  clear hE hal hl hzl hil
  go_enter Tryz.func7, Tryz.ntmps7
  go_wp2_with fail
  refine HN.out.mono ?_
  rintro e w2 ⟨rfl, hb⟩
  have HB2 := Lib.hid (HA.out.trans (hb.mono HA.out.size))
  clear hb HN HA
  go_wp2_with fail
  refine (lalive _).mono ?_
  rintro e w3 ⟨rfl, hb⟩
  have HB3 := Lib.hid (HB2.out.trans (hb.mono HB2.out.size))
  clear hb
  go_wp2_with fail
  go_ret
  exact ⟨rfl, HB3.out⟩
set_option maxRecDepth 100000 in
set_option maxHeartbeats 16000000 in
theorem walk (pl : Option Addr) (nl dl : Nat) (l : List Tox) (up : Bool) (seed room : Int) (p : Option Addr) (m d : Nat) (os : List LOp) (w : World) (hl : l.length = nl) (hnd : nl ≤ dl) (hzl : ∀ t ∈ l, t.s.size ≤ 140737488351232) (hil : ToxIn w pl nl l) (hx : os.length = m) (hmd : m ≤ d) (hd : d ≤ 9223372036854775807) (hz : ∀ o ∈ os, o.s.size ≤ 140737488351232 ∧ o.t.s.size ≤ 140737488351232) (hj : LopsIn w p m os) :
    Calls Tryz.prog 7 #[.agg #[.slice pl nl dl, .bool up, .int .u64 seed, .int .i64 room], .slice p m d] w fun e w' => e = .returned (.bool true) ∧ Below w.heap.size w w' := by
  by_cases hE : newLE l room ≠ 0
  · exact no_new pl nl dl l up seed room p m d w hl hnd hzl hil hE
  have hE0 : newLE l room = 0 := by omega
  have HX := Lib.hid hx
  have HJ := Lib.hid hj
  have HZ := Lib.hid hz
  have hal : Below w.heap.size w (w.alloc (.cells #[.slice pl nl dl, .bool up, .int .u64 seed, .int .i64 room] 25)) := (Below.refl _ _).alloc (Nat.le_refl _) _
  have HN := Lib.hid (lnew pl nl dl l up seed room 0 (w.alloc (.cells #[.slice pl nl dl, .bool up, .int .u64 seed, .int .i64 room] 25)) hl hnd hzl (toxs_on hil hal) hE0)
  have HAL := Lib.hid hal
  have hnew := heap_alloc_new w (.cells #[.slice pl nl dl, .bool up, .int .u64 seed, .int .i64 room] 25)
  have HNW := Lib.hid hnew
  have HIL := Lib.hid (And.intro hl hil)
  have HCKL := Lib.hid (newLE_parts hE0).2
  clear hE hE0 hal hl hzl hil hx hz hj
  go_enter Tryz.func7, Tryz.ntmps7
  go_wp2_with fail
  refine HN.out.mono ?_
  rintro e w2 ⟨g, V, rfl, h1, hmk⟩
  have hs0 := cell_of_row w2 w.heap.size 0 _ _ _ ((h1.2.2.block _ (gb.blk_lt hnew)).trans hnew)
  have hs1 := cell_of_row w2 w.heap.size 1 _ _ _ ((h1.2.2.block _ (gb.blk_lt hnew)).trans hnew)
  have hs2 := cell_of_row w2 w.heap.size 2 _ _ _ ((h1.2.2.block _ (gb.blk_lt hnew)).trans hnew)
  have hs3 := cell_of_row w2 w.heap.size 3 _ _ _ ((h1.2.2.block _ (gb.blk_lt hnew)).trans hnew)
  have HNW := Lib.hid ((h1.2.2.block _ (gb.blk_lt hnew)).trans hnew)
  have HA2 := Lib.hid (h1.base HAL.out)
  have HMK := Lib.hid hmk
  clear h1 hmk HN HAL hnew
  generalize (Lk.newK up seed room 0).addL 0 l = k0 at *
  go_wp2_with fail
  refine (lfew_any pl nl dl up seed room p m d os _ HX.out hmd hd HZ.out (lops_on HJ.out HA2.out.2.2)).mono ?_
  rintro e w3 ⟨b, rfl, hf, hb⟩
  have HA3 := Lib.hid (HA2.out.on hb)
  have HNW := Lib.hid ((hb.block _ (gb.blk_lt HNW.out)).trans HNW.out)
  have HF := Lib.hid hf
  clear hb hf HA2 hs0 hs1 hs2 hs3 hmd hd
  cases b with
  | false =>
    clear HF
    go_wp2_with fail
    refine (lalive _).mono ?_
    rintro e w5 ⟨rfl, hb5⟩
    have HB5 := Lib.hid (HA3.out.on hb5).2.2
    clear hb5
    go_wp2_with fail
    go_ret
    exact ⟨rfl, HB5.out⟩
  | true =>
    obtain ⟨hnl, hm, htt⟩ := HF.out rfl
    have HT := Lib.hid htt
    clear HF htt
    have hs0 := cell_of_row w3 w.heap.size 0 _ _ _ HNW.out
    go_wp2_with fail
    go_loopw [7, 9, 44] (fun vl _ i wr => ∃ (k : Nat) (lag : Int), k ≤ nl ∧ i = .int .i64 k ∧ vl = .int .i64 lag ∧ Hid (lag = lagF up (l.take k)) ∧ Hid (Below w3.heap.size w3 wr)) (fun _ _ i _ => nl - (intOf i).toNat)
    case atStart => exact ⟨0, 0, by omega, rfl, rfl, Lib.hid rfl, Lib.hid (Below.refl _ _)⟩
    case round =>
      obtain ⟨k, lag, hk, rfl, rfl, HG, HB⟩ := hrel
      have hbw : Below w.heap.size w wr := HA3.out.2.2.trans (HB.out.mono HA3.out.2.2.size)
      by_cases hlt : k < nl
      · obtain ⟨bb, oo, rfl, hcell⟩ := toxs_on HIL.out.2 hbw (by omega)
        obtain ⟨c0, c1, c2, c3, c4, c5⟩ := hcell k hlt
        have hkl : k < l.length := by rw [HIL.out.1]; exact hlt
        have HNX := Lib.hid (lagF_next up hkl)
        have hcs := (check_ok HCKL.out).2.1 _ (getD_mem hkl)
        generalize l.getD k noTox = t at *
        rw [← HG.out] at HNX
        rw [← Nat.add_assoc] at c1 c2 c3 c4 c5
        have hal : Below wr.heap.size wr (wr.alloc (.cells #[.string t.s, .int .i64 t.k, .bool t.up, .int .i64 t.o, .int .i64 t.a, .int .i64 t.b] 43)) := (Below.refl _ _).alloc (Nat.le_refl _) _
        have hnew := heap_alloc_new wr (.cells #[.string t.s, .int .i64 t.k, .bool t.up, .int .i64 t.o, .int .i64 t.a, .int .i64 t.b] 43)
        have HB4 := Lib.hid (HB.out.trans (hal.mono HB.out.size))
        have hs1 : (wr.alloc (.cells #[.string t.s, .int .i64 t.k, .bool t.up, .int .i64 t.o, .int .i64 t.a, .int .i64 t.b] 43)).cell? ⟨w.heap.size, 1, none⟩ = some (.bool up) := cell_of_row _ w.heap.size 1 _ _ _ ((HB4.out.block _ (gb.blk_lt HNW.out)).trans HNW.out)
        have HV := Lib.hid (fun h => chk_lat hcs h)
        have HAD := Lib.hid (fun W => gb.radd_any lag (t.a - t.b) W)
        clear hcell hal hcs hs0 HG
        go_upto_region 8 with fail
        generalize wr.alloc (.cells #[.string t.s, .int .i64 t.k, .bool t.up, .int .i64 t.o, .int .i64 t.a, .int .i64 t.b] 43) = w4 at *
        generalize wr.heap.size = gt at *
        have u1 := cell_of_row w4 _ 1 _ _ _ hnew
        have u2 := cell_of_row w4 _ 2 _ _ _ hnew
        have u3 := cell_of_row w4 _ 3 _ _ _ hnew
        have u4 := cell_of_row w4 _ 4 _ _ _ hnew
        have u5 := cell_of_row w4 _ 5 _ _ _ hnew
        clear c0 c1 c2 c3 c4 c5 hnew
        by_cases h1 : t.k = 1
        · have d1 : (t.k == 1) = true := by simp [h1]
          by_cases h2 : t.o = 100
          · have d2 : (t.o == 100) = true := by simp [h2]
            by_cases h3 : t.up = up
            · have d3 : (t.up == up) = true := by simp [h3]
              have hv := HV.out h1
              have hw : wrap64 (t.a - t.b) = t.a - t.b := IntWalk.i64_left _ |>.symm.trans (IntWalk.i64_in _ (by unfold topT at hv; omega))
              have HN2 := Lib.hid (show gb.near (gb.near lag + gb.near (t.a - t.b)) = lagF up (l.take (k + 1)) from by rw [HNX.out]; unfold lagS; rw [if_pos ⟨h1, h2, h3⟩]; rfl)
              clear h1 h2 h3 hv HV HNX
              go_wp2_with fail
              refine (HAD.out _).mono ?_
              rintro e w5 ⟨rfl, rfl⟩
              go_wp2_with fail
              go_roundw
              case rel => exact ⟨k + 1, _, by omega, by go_num, rfl, HN2, HB4⟩
              case measure => simp [intOf]; omega
            · have d3 : (t.up == up) = false := by simpa using h3
              have HN2 := Lib.hid (show lag = lagF up (l.take (k + 1)) from by rw [HNX.out]; unfold lagS; rw [if_neg (fun h => h3 h.2.2)])
              clear h1 h2 h3 HV HNX HAD
              go_wp2_with fail
              go_roundw
              case rel => exact ⟨k + 1, _, by omega, by go_num, rfl, HN2, HB4⟩
              case measure => simp [intOf]; omega
          · have d2 : (t.o == 100) = false := by simpa using h2
            have HN2 := Lib.hid (show lag = lagF up (l.take (k + 1)) from by rw [HNX.out]; unfold lagS; rw [if_neg (fun h => h2 h.2.1)])
            clear h1 h2 HV HNX HAD
            go_wp2_with fail
            go_roundw
            case rel => exact ⟨k + 1, _, by omega, by go_num, rfl, HN2, HB4⟩
            case measure => simp [intOf]; omega
        · have d1 : (t.k == 1) = false := by simpa using h1
          have HN2 := Lib.hid (show lag = lagF up (l.take (k + 1)) from by rw [HNX.out]; unfold lagS; rw [if_neg (fun h => h1 h.1)])
          clear h1 HV HNX HAD
          go_wp2_with fail
          go_roundw
          case rel => exact ⟨k + 1, _, by omega, by go_num, rfl, HN2, HB4⟩
          case measure => simp [intOf]; omega
      · obtain rfl : k = nl := by omega
        have HLW := Lib.hid (show LagW lag 0 k0.c [] 0 from by
          have h := lagw_new HMK.out HCKL.out
          rw [HG.out, ← HIL.out.1, List.take_length]
          exact h)
        have HA4 := Lib.hid (HA3.out.on HB.out)
        clear hlt hk HG HB HA3 HMK HCKL HIL hbw
        go_wp2_with fail
        go_loopw [10, 11, 12, 14, 15, 73] (fun vn vo va _ _ i wr => ∃ (k : Nat) (K : Lk) (U1 : Own) (now : Int) (out : Nat) (q : Option Addr) (n d' : Nat) (ats : List Int), k ≤ m ∧ i = .int .i64 k ∧ vn = .int .i64 now ∧ vo = .int .i64 out ∧ va = .slice q n d' ∧ Hid (LHd w wr U1 g K (128 + ltot (os.take k))) ∧ Hid (LagW lag now K.c ats out) ∧ Hid (RowL w wr U1 q n d' ats) ∧ Hid (n ≤ ltot (os.take k))) (fun _ _ _ _ _ i _ => m - (intOf i).toNat)
        case atStart => exact ⟨0, k0, V, 0, 0, none, 0, 0, [], by omega, rfl, rfl, rfl, rfl, HA4, HLW, Lib.hid (RowL.nil _ _ _), Lib.hid (Nat.zero_le _)⟩
        case round =>
          clear HA4 HLW
          obtain ⟨k, K, U1, now, out, q, n, d', ats, hk, rfl, rfl, rfl, rfl, HA, HW, HR, HN⟩ := hrel
          by_cases hlt : k < m
          · obtain ⟨b, o, rfl, hcell⟩ := lops_on HJ.out HA.out.2.2 (by omega)
            obtain ⟨c0, c1, c2, c3, c4, c5, c6, c7, c8, c9⟩ := hcell k hlt
            have hzk := HZ.out _ (lat_of os k (by rw [HX.out]; exact hlt))
            have HTK := Lib.hid (ltot_step os k m HX.out hlt _ rfl)
            have HTL := Lib.hid (Nat.le_trans (ltot_take_le os (k + 1)) HT.out)
            generalize os.getD k noLop = op0 at *
            obtain ⟨kd, T, N, b0, tx⟩ := op0
            obtain ⟨us, uk, uu, uo, ua, ub⟩ := tx
            simp only at c0 c1 c2 c3 c4 c5 c6 c7 c8 c9 HTK hzk
            rw [← Nat.add_assoc] at c1 c2 c3 c4 c5 c6 c7 c8 c9
            have hal : Below wr.heap.size wr (wr.alloc (.cells #[.int .i64 kd, .int .i64 T, .int .i64 N, .string b0, .string us, .int .i64 uk, .bool uu, .int .i64 uo, .int .i64 ua, .int .i64 ub] 45)) := (Below.refl _ _).alloc (Nat.le_refl _) _
            have HA4 := Lib.hid (HA.out.on hal)
            have HR4 := Lib.hid (HR.out.on hal)
            have HO4 := Lib.hid (heap_alloc_new wr (.cells #[.int .i64 kd, .int .i64 T, .int .i64 N, .string b0, .string us, .int .i64 uk, .bool uu, .int .i64 uo, .int .i64 ua, .int .i64 ub] 45))
            have HU4 := Lib.hid (And.intro (HA.out.new (Nat.le_refl _)) HA.out.2.2.size)
            have hrg := HW.out.rng
            have hnr := gb.near_range T
            have HNR := Lib.hid (fun W => gb.rnear_any T W)
            generalize gb.near T = nt at *
            have HLN := Lib.hid HR.out.len
            clear hal HA HR hcell
            go_upto_region 16 with fail
            generalize wr.alloc (.cells #[.int .i64 kd, .int .i64 T, .int .i64 N, .string b0, .string us, .int .i64 uk, .bool uu, .int .i64 uo, .int .i64 ua, .int .i64 ub] 45) = w4 at *
            generalize wr.heap.size = go at *
            clear c0 c1 c2 c3 c4 c5 c6 c7 c8 c9
            have o0 := cell_of_row w4 go 0 _ _ _ HO4.out
            have o1 := cell_of_row w4 go 1 _ _ _ HO4.out
            go_wp2_with fail
            refine (HNR.out _).mono ?_
            rintro e w5 ⟨rfl, rfl⟩
            clear HNR
            obtain ⟨T2, hT2⟩ : ∃ T2, max now nt = T2 := ⟨_, rfl⟩
            have ht1 : now ≤ T2 := by omega
            have ht2 : T2 ≤ topT := by unfold topT at *; omega
            have hfz := gb.frozen_at (i := 1) HO4.out
            clear hnr hrg
            go_upto_region 18 with fail
            clear hfz hT2
            have HO5 := Lib.hid (show (w4.setCell ⟨go, 1, none⟩ (.int .i64 T2)).heap[go]? = some (.cells #[.int .i64 kd, .int .i64 T2, .int .i64 N, .string b0, .string us, .int .i64 uk, .bool uu, .int .i64 uo, .int .i64 ua, .int .i64 ub] 45 (0, 0)) from by rw [gb.set_heap HO4.out]; rfl)
            have HA5 := Lib.hid (HA4.out.set (i := 1) HU4.out.1 HU4.out.2 (.int .i64 T2))
            have HR5 := Lib.hid (HR4.out.set HO4.out (by decide) 1 (.int .i64 T2))
            clear HA4 HR4 HO4 o0 o1
            generalize w4.setCell ⟨go, 1, none⟩ (.int .i64 T2) = w5 at *
            have o0 := cell_of_row w5 go 0 _ _ _ HO5.out
            have o1 := cell_of_row w5 go 1 _ _ _ HO5.out
            have o2 := cell_of_row w5 go 2 _ _ _ HO5.out
            have o3 := cell_of_row w5 go 3 _ _ _ HO5.out
            have o4 := cell_of_row w5 go 4 _ _ _ HO5.out
            have o5 := cell_of_row w5 go 5 _ _ _ HO5.out
            have o6 := cell_of_row w5 go 6 _ _ _ HO5.out
            have o7 := cell_of_row w5 go 7 _ _ _ HO5.out
            have o8 := cell_of_row w5 go 8 _ _ _ HO5.out
            have o9 := cell_of_row w5 go 9 _ _ _ HO5.out
            by_cases hk3 : 3 < kd
            · have d3 : decide ((3 : Int) < kd) = true := decide_eq_true hk3
              have HA6 := Lib.hid (HA5.out.mono (M' := 128 + ltot (os.take (k + 1))) (by have := HTK.out; omega) (by have := HTL.out; omega))
              have HW6 := Lib.hid (HW.out.later ht1 ht2)
              have HN6 := Lib.hid (show n ≤ ltot (os.take (k + 1)) by have := HN.out; have := HTK.out; omega)
              clear hk3 HA5 HW HN
              go_wp2_with fail
              go_roundw
              case rel => exact ⟨k + 1, K, U1, T2, out, q, n, d', ats, by omega, by go_num, rfl, rfl, rfl, HA6, HW6, HR5, HN6⟩
              case measure => simp [intOf]; omega
            · have d3 : decide ((3 : Int) < kd) = false := decide_eq_false hk3
              obtain ⟨op, hop⟩ : ∃ op : LOp, op = ⟨kd, T2, N, b0, ⟨us, uk, uu, uo, ua, ub⟩⟩ := ⟨_, rfl⟩
              have ek : op.kind = kd := by rw [hop]
              have en : op.now = T2 := by rw [hop]
              have es : op.s = b0 := by rw [hop]
              have et : op.t.s = us := by rw [hop]
              have ev : lopV op = .agg #[.int .i64 kd, .int .i64 T2, .int .i64 N, .string b0, .string us, .int .i64 uk, .bool uu, .int .i64 uo, .int .i64 ua, .int .i64 ub] := by rw [hop]; rfl
              obtain ⟨K2, hK2⟩ : ∃ K2, K.doK op = K2 := ⟨_, rfl⟩
              obtain ⟨a1, ha1⟩ : ∃ a1, K.ansK op = a1 := ⟨_, rfl⟩
              have HDO := Lib.hid (show Calls Tryz.prog 15 #[ptr g, .agg #[.int .i64 kd, .int .i64 T2, .int .i64 N, .string b0, .string us, .int .i64 uk, .bool uu, .int .i64 uo, .int .i64 ua, .int .i64 ub]] w5 (LDoe w w5 U1 g K2 a1 (128 + ltot (os.take (k + 1)))) from by
                rw [← hK2, ← ha1, ← ev]
                exact ldoes HA5.out op (by rw [et]; unfold maxLen; have := hzk.2; omega) (by rw [es, et]; have := HTK.out; omega) (by have := HTL.out; omega))
              have hwd := HW.out.do op (by omega) (by omega) (by omega)
              have HNN := Lib.hid (fun h3 => lag_n HA5.out.ok HA5.out.bal' op (by omega) h3)
              have HKB := Lib.hid (fun h0 : kd = 0 => (Lk.send_n HA5.out.ok HA5.out.bal' (o := op) (by omega)).2)
              rw [hK2, ha1, ek, en] at hwd
              rw [hK2, ha1, es] at HNN
              rw [ha1, es] at HKB
              have HWD := Lib.hid hwd
              clear hop ek en es et ev hK2 ha1 hwd hk3 HW hzk
              go_wp2_with fail
              refine HDO.out.mono ?_
              rintro e w6 ⟨rfl, U6, h6, hr6⟩
              obtain ⟨n1, t1, e1⟩ := a1
              have hk6 : w6.heap[go]? = _ ∧ ¬ U6 go := ⟨(hr6 go (gb.blk_lt HO5.out) HU4.out.1).1.trans HO5.out, (hr6 go (gb.blk_lt HO5.out) HU4.out.1).2⟩
              have hal : Below w6.heap.size w6 (w6.alloc (.cells #[.int .i64 n1, .string t1, .int .i64 e1] 47)) := (Below.refl _ _).alloc (Nat.le_refl _) _
              have HA7 := Lib.hid (h6.on hal)
              have HR7 := Lib.hid ((HR5.out.rest hr6).on hal)
              have HO7 := Lib.hid ((hal.block _ (gb.blk_lt hk6.1)).trans hk6.1)
              have HG7 := Lib.hid (heap_alloc_new w6 (.cells #[.int .i64 n1, .string t1, .int .i64 e1] 47))
              simp only at HWD HNN HKB
              have hnn := HNN.out h6.ok
              clear hal h6 hr6 hk6 HDO HA5 HR5 HO5 HU4 HNN o0 o1 o2 o3 o4 o5 o6 o7 o8 o9
              go_upto_region 20 with fail
              generalize w6.alloc (.cells #[.int .i64 n1, .string t1, .int .i64 e1] 47) = w7 at *
              generalize w6.heap.size = gx at *
              have y0 := cell_of_row w7 gx 0 _ _ _ HG7.out
              go_wp2_with fail
              clear y0
              go_loopw [12, 92] (fun va iv wx => ∃ (j : Nat) (q' : Option Addr) (n' d2 : Nat) (ats' : List Int), (j : Int) ≤ n1 ∧ iv = .int .i64 j ∧ va = .slice q' n' d2 ∧ Hid (LHd w wx U6 g K2 (128 + ltot (os.take (k + 1)))) ∧ Hid (RowL w wx U6 q' n' d2 ats') ∧ Hid (ats' = ats ++ (if kd = 0 then List.replicate j T2 else [])) ∧ Hid (wx.heap[go]? = some (.cells #[.int .i64 kd, .int .i64 T2, .int .i64 N, .string b0, .string us, .int .i64 uk, .bool uu, .int .i64 uo, .int .i64 ua, .int .i64 ub] 45 (0, 0))) ∧ Hid (wx.heap[gx]? = some (.cells #[.int .i64 n1, .string t1, .int .i64 e1] 47 (0, 0)))) (fun _ iv _ => n1.toNat - (intOf iv).toNat)
              case atStart => exact ⟨0, q, n, d', ats, hnn.1, rfl, rfl, HA7, HR7, Lib.hid (by simp), HO7, HG7⟩
              case round =>
                clear HA7 HR7 HO7 HG7
                obtain ⟨j, q', n', d2, ats', hj, rfl, rfl, HA8, HR8, HAT, HO8, HG8⟩ := hrel
                have hln := HLN.out
                have p0 := cell_of_row wr go 0 _ _ _ HO8.out
                have hb0 : b0.size ≤ 2000 := by have := HTK.out; have := HTL.out; omega
                by_cases hjn : (j : Int) < n1
                · have dl : decide ((j : Int) < n1) = true := decide_eq_true hjn
                  by_cases hk0 : kd = 0
                  · have d0 : (kd == 0) = true := by simp [hk0]
                    have hn2 : n' + 1 ≤ 1000000 := by
                      have h1 := HR8.out.len
                      have h2 := HAT.out
                      rw [if_pos hk0] at h2
                      rw [h2, List.length_append, List.length_replicate] at h1
                      have := HN.out
                      have := HTK.out
                      have := HTL.out
                      omega
                    obtain ⟨q3, d4, w9, r1, rr, hh, hkeep⟩ := HR8.out.app HA8.out hn2 T2
                    have HRUN := Lib.hid r1
                    have HA9 := Lib.hid hh
                    have HR9 := Lib.hid rr
                    have HO9 := Lib.hid (hkeep _ _ _ _ HO8.out (by decide))
                    have HG9 := Lib.hid (hkeep _ _ _ _ HG8.out (by decide))
                    have HAT9 := Lib.hid (show ats' ++ [T2] = ats ++ (if kd = 0 then List.replicate (j + 1) T2 else []) from by rw [HAT.out, if_pos hk0, if_pos hk0, List.replicate_succ', List.append_assoc])
                    clear r1 rr hh hkeep HA8 HR8 hk0 hn2
                    go_wp2_with (at_builtin; refine Lib.wpList_append_run _ rfl _ _ _ _ rfl (.slice q' n' d2) (.slice (some ⟨wr.heap.size, 0, none⟩) 1 1) rfl rfl _ _ (HRUN.out _) ?_)
                    go_roundw
                    case rel => exact ⟨j + 1, q3, n' + 1, d4, ats' ++ [T2], by omega, by go_num, rfl, HA9, HR9, HAT9, HO9, HG9⟩
                    case measure => simp [intOf]; omega
                  · have d0 : (kd == 0) = false := by simpa using hk0
                    have HAT9 := Lib.hid (show ats' = ats ++ (if kd = 0 then List.replicate (j + 1) T2 else []) from by rw [HAT.out, if_neg hk0, if_neg hk0])
                    clear hk0
                    go_wp2_with fail
                    go_roundw
                    case rel => exact ⟨j + 1, q', n', d2, ats', by omega, by go_num, rfl, HA8, HR8, HAT9, HO8, HG8⟩
                    case measure => simp [intOf]; omega
                · have dl : decide ((j : Int) < n1) = false := decide_eq_false hjn
                  have hjt : n1.toNat = j := by omega
                  have hl9 := HR8.out.len
                  have h9 := HWD.out
                  rw [hjt, ← HAT.out] at h9
                  have HW9 := Lib.hid h9.1
                  have HN9 := Lib.hid (show n' ≤ ltot (os.take (k + 1)) from by
                    have h2 := HAT.out
                    have := HN.out
                    have := HTK.out
                    by_cases hk0 : kd = 0
                    · rw [if_pos hk0] at h2
                      rw [h2, List.length_append, List.length_replicate] at hl9
                      have := HKB.out hk0
                      omega
                    · rw [if_neg hk0, List.append_nil] at h2
                      rw [h2] at hl9
                      omega)
                  have HB9 := Lib.hid (show ∀ i, i < t1.size → out + i < n' ∧ addT (ats'.getD (out + i) 0) lag ≤ T2 from fun i hi => by
                    obtain ⟨e1, e2⟩ := h9.2 i hi
                    have h2 := HAT.out
                    have h3 : ats.length ≤ ats'.length := by rw [h2, List.length_append]; omega
                    refine ⟨by omega, ?_⟩
                    rw [h2, getD_app_lt e1]
                    exact e2)
                  have hn9 : n' ≤ 2000 := Nat.le_trans HN9.out HTL.out
                  have ho9 := HW9.out.rng.2.2
                  have y1 := cell_of_row wr gx 1 _ _ _ HG8.out
                  clear h9 HWD HAT hjt hjn HO8 HG8 p0 HKB HN HTK
                  go_wp2_with fail
                  clear y1 dl
                  rename World => wC
                  go_loopw [11, 105] (fun vo iv wx => ∃ (i : Nat), i ≤ t1.size ∧ iv = .int .i64 i ∧ vo = .int .i64 ((out + i : Nat) : Int) ∧ wx = wC) (fun _ iv _ => t1.size - (intOf iv).toNat)
                  case atStart => exact ⟨0, Nat.zero_le _, rfl, rfl, rfl⟩
                  case round =>
                    obtain ⟨i, hi, rfl, rfl, rfl⟩ := hrel
                    by_cases hil : i < t1.size
                    · obtain ⟨f1, f2⟩ := HB9.out i hil
                      obtain ⟨b3, o3, rfl, hc3⟩ := HR8.out.num (by omega)
                      have c3 := hc3 (out + i) f1
                      have HAD := Lib.hid (fun W => gb.radd_any (ats'.getD (out + i) 0) lag W)
                      have HADE := Lib.hid (show gb.near (gb.near (ats'.getD (out + i) 0) + gb.near lag) ≤ T2 from f2)
                      generalize ats'.getD (out + i) 0 = at' at *
                      generalize gb.near (gb.near at' + gb.near lag) = lim at *
                      have dl : decide (T2 < lim) = false := decide_eq_false (by have := HADE.out; omega)
                      have dn : decide ((n' : Int) ≤ ((out + i : Nat) : Int)) = false := decide_eq_false (by omega)
                      have hci : out + i < 2000 := by omega
                      have hcj : out + (i + 1) = (out + i) + 1 := rfl
                      clear hc3 f2
                      generalize hcx : out + i = cj at *
                      go_wp2_with fail
                      refine (HAD.out _).mono ?_
                      rintro e wA ⟨rfl, rfl⟩
                      go_wp2_with fail
                      go_roundw
                      case rel => exact ⟨i + 1, by omega, by go_num, by rw [hcj]; go_num, by first | rfl | trivial⟩
                      case measure => simp [intOf]; omega
                    · obtain rfl : i = t1.size := by omega
                      go_wp2_with fail
                      go_roundw
                      case rel => exact ⟨k + 1, K2, U6, T2, out + t1.size, q', n', d2, ats', by omega, by go_num, rfl, rfl, rfl, HA8, HW9, HR8, HN9⟩
                      case measure => simp [intOf]; omega
          · obtain rfl : k = m := by omega
            clear hlt hk
            go_wp2_with fail
            refine (lalive _).mono ?_
            rintro e w5 ⟨rfl, hb5⟩
            have HB5 := Lib.hid (HA.out.on hb5).2.2
            clear hb5 HA
            go_wp2_with fail
            go_ret
            exact ⟨rfl, HB5.out⟩
end linkLags
end Go.Proofs.YtoiodcaohkfdjaaGreat

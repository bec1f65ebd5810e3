/-
  The walk of chicanelaw13.ConnBroken: it returns true, whatever calls. Conditions: as each states.
-/
import Derived.Test.YtdighjgcnaajgaaGreatMT6
import Derived.Deep.CutRange
namespace Go.Proofs.YtdighjgcnaajgaaGreat
open Go.RowKit
namespace connBroken
set_option maxRecDepth 100000 in
set_option maxHeartbeats 8000000 in
theorem no_new (pl : Option Addr) (nl dl : Nat) (l : List Tox) (seed room now : Int) (p : Option Addr) (m d : Nat) (w : World) (hl : l.length = nl) (hnd : nl ≤ dl) (hzl : ∀ t ∈ l, t.s.size ≤ 140737488351232) (hil : ToxIn w pl nl l) (hE : newLE l room ≠ 0) :
    Calls Tryz.prog 4 #[.agg #[.slice pl nl dl, .int .u64 seed, .int .i64 room, .int .i64 now], .slice p m d] w fun e w' => e = .returned (.bool true) ∧ Below w.heap.size w w' := by
  have hal : Below w.heap.size w (w.alloc (.cells #[.slice pl nl dl, .int .u64 seed, .int .i64 room, .int .i64 now] 25)) := (Below.refl _ _).alloc (Nat.le_refl _) _
  have HN := Lib.hid (knew_no pl nl dl l seed room now (w.alloc (.cells #[.slice pl nl dl, .int .u64 seed, .int .i64 room, .int .i64 now] 25)) hl hnd hzl (toxs_on hil hal) hE)
  have HA := Lib.hid hal
  have d1 : (newLE l room != 0) = true := by simpa using hE
  have d2 : decide (newLE l room = 0) = false := by simpa using hE
  generalize newLE l room = E at *
  clear hE hal hl hzl hil
  go_enter Tryz.func4, Tryz.ntmps4
  go_wp2_with fail
  refine HN.out.mono ?_
  rintro e w2 ⟨rfl, hb⟩
  have HB2 := Lib.hid (HA.out.trans (hb.mono HA.out.size))
  clear hb HN HA
  go_wp2_with fail
  refine (yalive _).mono ?_
  rintro e w3 ⟨rfl, hb⟩
  have HB3 := Lib.hid (HB2.out.trans (hb.mono HB2.out.size))
  clear hb
  go_wp2_with fail
  go_ret
  exact ⟨rfl, HB3.out⟩
set_option maxRecDepth 100000 in
set_option maxHeartbeats 16000000 in
theorem walk (pl : Option Addr) (nl dl : Nat) (l : List Tox) (seed room now : Int) (p : Option Addr) (m d : Nat) (os : List YOp) (w : World) (hl : l.length = nl) (hnd : nl ≤ dl) (hzl : ∀ t ∈ l, t.s.size ≤ 140737488351232) (hil : ToxIn w pl nl l) (hx : os.length = m) (hmd : m ≤ d) (hd : d ≤ 9223372036854775807) (hz : ∀ o ∈ os, o.s.size ≤ 140737488351232 ∧ o.t.s.size ≤ 140737488351232) (hj : YopsIn w p m os) :
    Calls Tryz.prog 4 #[.agg #[.slice pl nl dl, .int .u64 seed, .int .i64 room, .int .i64 now], .slice p m d] w fun e w' => e = .returned (.bool true) ∧ Below w.heap.size w w' := by
  by_cases hE : newLE l room ≠ 0
  · exact no_new pl nl dl l seed room now p m d w hl hnd hzl hil hE
  have hE0 : newLE l room = 0 := by omega
  have HX := Lib.hid hx
  have HJ := Lib.hid hj
  have HZ := Lib.hid hz
  have hal : Below w.heap.size w (w.alloc (.cells #[.slice pl nl dl, .int .u64 seed, .int .i64 room, .int .i64 now] 25)) := (Below.refl _ _).alloc (Nat.le_refl _) _
  have HN := Lib.hid (knew pl nl dl l seed room now (w.alloc (.cells #[.slice pl nl dl, .int .u64 seed, .int .i64 room, .int .i64 now] 25)) hl hnd hzl (toxs_on hil hal) hE0)
  have HAL := Lib.hid hal
  have hnew := heap_alloc_new w (.cells #[.slice pl nl dl, .int .u64 seed, .int .i64 room, .int .i64 now] 25)
  clear hE hE0 hal hl hzl hil hx hz hj
  go_enter Tryz.func4, Tryz.ntmps4
  go_wp2_with fail
  refine HN.out.mono ?_
  rintro e w2 ⟨g, V, rfl, h1, hm1, hm2⟩
  have hnw2 := (h1.2.2.block _ (gb.blk_lt hnew)).trans hnew
  have hs0 := cell_of_row w2 w.heap.size 0 _ _ _ hnw2
  have hs1 := cell_of_row w2 w.heap.size 1 _ _ _ hnw2
  have hs2 := cell_of_row w2 w.heap.size 2 _ _ _ hnw2
  have hs3 := cell_of_row w2 w.heap.size 3 _ _ _ hnw2
  have HNW := Lib.hid hnw2
  have HA2 := Lib.hid (h1.base HAL.out)
  have HMK := Lib.hid (And.intro hm1 hm2)
  have HK0 := Lib.hid (show (Cn.newC l seed room now l.length).A = Lk.newL l 0 seed room now ∧ (Cn.newC l seed room now l.length).B = Lk.newL l 1 seed room now from ⟨rfl, rfl⟩)
  clear h1 hm1 hm2 HN HAL hnew hnw2
  generalize Cn.newC l seed room now l.length = k0 at *
  go_wp2_with fail
  refine (kfew_any pl nl dl seed room now p m d os _ HX.out hmd hd HZ.out (yops_on HJ.out HA2.out.2.2)).mono ?_
  rintro e w3 ⟨b, rfl, hf, hb⟩
  have HA3 := Lib.hid (HA2.out.on hb)
  have HF := Lib.hid hf
  clear hb hf HA2 HNW hs0 hs1 hs2 hs3 hmd hd
  cases b with
  | false =>
    clear HF
    go_wp2_with fail
    refine (yalive _).mono ?_
    rintro e w5 ⟨rfl, hb5⟩
    have HB5 := Lib.hid (HA3.out.on hb5).2.2
    clear hb5
    go_wp2_with fail
    go_ret
    exact ⟨rfl, HB5.out⟩
  | true =>
    obtain ⟨hnl, hm, htt⟩ := HF.out rfl
    have HT := Lib.hid htt
    clear HF htt
    have hal : Below w3.heap.size w3 (w3.alloc (.cells #[.bool false, .bool false] 57)) := (Below.refl _ _).alloc (Nat.le_refl _) _
    have hge := heap_alloc_new w3 (.cells #[.bool false, .bool false] 57)
    have hne := HA3.out.new (Nat.le_refl _)
    have hbe : w.heap.size ≤ w3.heap.size := HA3.out.2.2.size
    have HA3 := Lib.hid (HA3.out.on hal)
    have HO0 := Lib.hid (show k0.Ovs from by unfold Cn.Ovs; rw [HK0.out.1, HK0.out.2]; exact ⟨newL_over HMK.out.1, newL_over HMK.out.2⟩)
    have HF0 := Lib.hid (show k0.A.fin = 0 ∧ k0.B.fin = 0 from by rw [HK0.out.1, HK0.out.2]; exact ⟨newL_fin HMK.out.1, newL_fin HMK.out.2⟩)
    clear hal HMK HK0
    go_wp2_with fail
    generalize w3.alloc (.cells #[.bool false, .bool false] 57) = wE at *
    generalize w3.heap.size = ge at *
    have HE0 := Lib.hid (show wE.heap[ge]? = some (.cells #[.bool (decide (k0.A.fin ≠ 0)), .bool (decide (k0.B.fin ≠ 0))] 57 (0, 0)) from by rw [HF0.out.1, HF0.out.2]; exact hge)
    have HE1 := Lib.hid hne
    clear hge hne
    go_loopw [9, 10, 11, 12, 41] (fun _ _ _ _ i wr => ∃ (k : Nat) (K : Cn) (U1 : Own), k ≤ m ∧ i = .int .i64 k ∧ Hid (KHd w wr U1 g K (128 + ytot (os.take k))) ∧ Hid K.Ovs ∧ Hid (wr.heap[ge]? = some (.cells #[.bool (decide (K.A.fin ≠ 0)), .bool (decide (K.B.fin ≠ 0))] 57 (0, 0))) ∧ Hid (¬ U1 ge)) (fun _ _ _ _ i _ => m - (intOf i).toNat)
    case atStart => exact ⟨0, k0, V, by omega, rfl, HA3, HO0, HE0, HE1⟩
    case round =>
      clear HA3 HO0 HF0 HE0 HE1
      obtain ⟨k, K, U1, hk, rfl, HA, HOV, HEC, HEN⟩ := hrel
      by_cases hlt : k < m
      · obtain ⟨b, o, rfl, hcell⟩ := yops_on HJ.out HA.out.2.2 (by omega)
        obtain ⟨c0, c1, c2, c3, c4, c5, c6, c7, c8, c9, c10, c11⟩ := hcell k hlt
        have hzk := HZ.out _ (yat_of os k (by rw [HX.out]; exact hlt))
        have HTK := Lib.hid (ytot_step os k m HX.out hlt _ rfl)
        have HTL := Lib.hid (Nat.le_trans (ytot_take_le os (k + 1)) HT.out)
        generalize os.getD k noYop = op at *
        obtain ⟨K2, hK2⟩ : ∃ K2, K.doK op = K2 := ⟨_, rfl⟩
        obtain ⟨a1, ha1⟩ : ∃ a1, K.ansK op = a1 := ⟨_, rfl⟩
        have hoks := krep_ok HA.out.1
        have hok : K.Oks := ⟨hoks.1, hoks.2.1⟩
        have hec : op.kind ≠ 3 → K2.Ovs ∧ (K2.A.fin ≠ 0 ↔ K.A.fin ≠ 0) ∧ (K2.B.fin ≠ 0 ↔ K.B.fin ≠ 0) := fun h3 => by
          rw [← hK2]
          exact Cn.ends_call hok HOV.out op h3
        have hes : op.kind = 3 → K2.Ovs ∧ K.A.Tol K2.A a1.x.b a1.x.e ∧ K.B.Tol K2.B a1.y.b a1.y.e ∧ (a1.x.e = 2 ∨ a1.y.e = 2 → K2.A.fin ≠ 0 ∧ K2.B.fin ≠ 0) := fun h3 => by
          have e2 : K2 = (K.stepS op.now op.n0 op.n1).k := by rw [← hK2]; unfold Cn.doK; rw [if_neg (by omega), if_neg (by omega), if_neg (by omega), if_pos h3]
          have e3 : a1 = ⟨0, (K.stepS op.now op.n0 op.n1).x, (K.stepS op.now op.n0 op.n1).y, 0⟩ := by rw [← ha1]; unfold Cn.ansK; rw [if_neg (by omega), if_pos h3]
          rw [e2, e3]
          exact Cn.ends_step hok HOV.out op.now op.n0 op.n1
        have HDs := Lib.hid (fun (W : World) (hb : Below wr.heap.size wr W) => (show Calls Tryz.prog 16 #[ptr g, yopV op] W (KDoe w W U1 g K2 a1 (128 + ytot (os.take (k + 1)))) from by
          rw [← hK2, ← ha1]
          exact kdoes (HA.out.on hb) op (by unfold maxLen; have := hzk.2; omega) (by have := HTK.out; omega) (by have := HTL.out; omega)))
        obtain ⟨kd, wy, T, N, N2, b0, tx⟩ := op
        obtain ⟨us, uk, uu, uo, ua, ub⟩ := tx
        unfold yopV at HDs
        simp only at c0 c1 c2 c3 c4 c5 c6 c7 c8 c9 c10 c11 HTK HDs hec hes
        rw [← Nat.add_assoc] at c1 c2 c3 c4 c5 c6 c7 c8 c9 c10 c11
        have hal : Below wr.heap.size wr (wr.alloc (.cells #[.int .i64 kd, .int .i64 wy, .int .i64 T, .int .i64 N, .int .i64 N2, .string b0, .string us, .int .i64 uk, .bool uu, .int .i64 uo, .int .i64 ua, .int .i64 ub] 48)) := (Below.refl _ _).alloc (Nat.le_refl _) _
        have HA4 := Lib.hid (HA.out.on hal)
        have HO4 := Lib.hid (heap_alloc_new wr (.cells #[.int .i64 kd, .int .i64 wy, .int .i64 T, .int .i64 N, .int .i64 N2, .string b0, .string us, .int .i64 uk, .bool uu, .int .i64 uo, .int .i64 ua, .int .i64 ub] 48))
        have HU4 := Lib.hid (HA.out.new (Nat.le_refl _))
        have HD4 := Lib.hid (HDs.out _ hal)
        have HEC4 := Lib.hid ((hal.block _ (gb.blk_lt HEC.out)).trans HEC.out)
        have HHC := Lib.hid hec
        have HHS := Lib.hid hes
        have hlo : ge ≠ wr.heap.size := Nat.ne_of_lt (gb.blk_lt HEC.out)
        clear hec hes hok hoks HOV HEC
        clear hal HA HDs hcell hzk hK2 ha1
        go_upto_region 8 with fail
        generalize wr.alloc (.cells #[.int .i64 kd, .int .i64 wy, .int .i64 T, .int .i64 N, .int .i64 N2, .string b0, .string us, .int .i64 uk, .bool uu, .int .i64 uo, .int .i64 ua, .int .i64 ub] 48) = w4 at *
        generalize hgo : wr.heap.size = go at *
        clear c0 c1 c2 c3 c4 c5 c6 c7 c8 c9 c10 c11
        have o0 := cell_of_row w4 go 0 _ _ _ HO4.out
        have o1 := cell_of_row w4 go 1 _ _ _ HO4.out
        have o2 := cell_of_row w4 go 2 _ _ _ HO4.out
        have o3 := cell_of_row w4 go 3 _ _ _ HO4.out
        have o4 := cell_of_row w4 go 4 _ _ _ HO4.out
        have o5 := cell_of_row w4 go 5 _ _ _ HO4.out
        have o6 := cell_of_row w4 go 6 _ _ _ HO4.out
        have o7 := cell_of_row w4 go 7 _ _ _ HO4.out
        have o8 := cell_of_row w4 go 8 _ _ _ HO4.out
        have o9 := cell_of_row w4 go 9 _ _ _ HO4.out
        have o10 := cell_of_row w4 go 10 _ _ _ HO4.out
        have o11 := cell_of_row w4 go 11 _ _ _ HO4.out
        go_wp2_with fail
        refine HD4.out.mono ?_
        rintro e w6 ⟨rfl, U6, h6, hr6⟩
        obtain ⟨n1, ⟨xb, xe⟩, ⟨yb, ye⟩, e1⟩ := a1
        unfold yanV
        dsimp only
        have hk6 : w6.heap[go]? = _ ∧ ¬ U6 go := ⟨(hr6 go (gb.blk_lt HO4.out) HU4.out).1.trans HO4.out, (hr6 go (gb.blk_lt HO4.out) HU4.out).2⟩
        have hal : Below w6.heap.size w6 (w6.alloc (.cells #[.int .i64 n1, .string xb, .int .i64 xe, .string yb, .int .i64 ye, .int .i64 e1] 53)) := (Below.refl _ _).alloc (Nat.le_refl _) _
        have HA7 := Lib.hid (h6.on hal)
        have HO7 := Lib.hid ((hal.block _ (gb.blk_lt hk6.1)).trans hk6.1)
        have HG7 := Lib.hid (heap_alloc_new w6 (.cells #[.int .i64 n1, .string xb, .int .i64 xe, .string yb, .int .i64 ye, .int .i64 e1] 53))
        have he6 := hr6 ge (gb.blk_lt HEC4.out) HEN.out
        have HEC7 := Lib.hid ((hal.block _ (gb.blk_lt (he6.1.trans HEC4.out))).trans (he6.1.trans HEC4.out))
        have HEN7 := Lib.hid he6.2
        have HNE := Lib.hid (show w6.heap.size ≠ ge ∧ go ≠ w6.heap.size from ⟨Nat.ne_of_gt (gb.blk_lt (he6.1.trans HEC4.out)), Nat.ne_of_lt (gb.blk_lt hk6.1)⟩)
        clear he6 HEN HEC4
        clear hal h6 hr6 hk6 HD4 HA4 HO4 HU4 o0 o1 o2 o3 o4 o5 o6 o7 o8 o9 o10 o11
        go_upto_region 9 with fail
        generalize w6.alloc (.cells #[.int .i64 n1, .string xb, .int .i64 xe, .string yb, .int .i64 ye, .int .i64 e1] 53) = w7 at *
        generalize w6.heap.size = ga at *
        have q0 := cell_of_row w7 go 0 _ _ _ HO7.out
        by_cases h3 : kd = 3
        · subst h3
          have hs := HHS.out (by trivial)
          have HOV := Lib.hid hs.1
          obtain ⟨B, hB⟩ : ∃ B, decide (xe = 2 ∨ ye = 2) = B := ⟨_, rfl⟩
          have HA1 := Lib.hid (brk_way hs.2.1 (fun e => (hs.2.2.2 e).1) hB)
          have HB1 := Lib.hid (brk_way hs.2.2.1 (fun e => (hs.2.2.2 e).2) hB)
          obtain ⟨eA, heA⟩ : ∃ b, decide (K.A.fin ≠ 0) = b := ⟨_, rfl⟩
          obtain ⟨eB, heB⟩ : ∃ b, decide (K.B.fin ≠ 0) = b := ⟨_, rfl⟩
          obtain ⟨eA2, heA2⟩ : ∃ b, decide (K2.A.fin ≠ 0) = b := ⟨_, rfl⟩
          obtain ⟨eB2, heB2⟩ : ∃ b, decide (K2.B.fin ≠ 0) = b := ⟨_, rfl⟩
          rw [heA, heA2] at HA1
          rw [heB, heB2] at HB1
          rw [heA, heB] at HEC7
          have HE2 := Lib.hid (And.intro heA2 heB2)
          have HBB := Lib.hid hB
          clear hs HHS HHC hB heA heB heA2 heB2
          obtain ⟨y0, y1, y2, y3, y4, y5⟩ := (yan_at (a := ⟨n1, ⟨xb, xe⟩, ⟨yb, ye⟩, e1⟩) HG7.out).1
          simp only at y0 y1 y2 y3 y4 y5
          go_upto_region 10 with fail
          go_cut [11, 41] from 41 to 125 (fun v11 v41 wc => v11 = .bool B ∧ v41 = .int .i64 k ∧ wc = w7)
          case first =>
            have hb := HBB.out
            clear HA1 HB1 HBB
            by_cases x2 : xe = 2
            · subst x2
              obtain rfl : B = true := by rw [← hb]; simp
              clear hb
              go_wp2_with fail
              go_meet
              exact ⟨rfl, rfl, rfl⟩
            · have d1 : (xe == 2) = false := by simpa using x2
              have d2 : decide (xe = 2) = false := by simpa using x2
              by_cases yy : ye = 2
              · subst yy
                obtain rfl : B = true := by rw [← hb]; simp
                clear hb x2
                go_wp2_with fail
                go_meet
                exact ⟨rfl, rfl, rfl⟩
              · have d3 : (ye == 2) = false := by simpa using yy
                have d4 : decide (ye = 2) = false := by simpa using yy
                obtain rfl : B = false := by rw [← hb]; simp [x2, yy]
                clear hb x2 yy
                go_wp2_with fail
                go_meet
                exact ⟨rfl, rfl, rfl⟩
          case rest =>
            obtain ⟨rfl, rfl, hwc⟩ := hcut
            rw [hwc]
            clear hwc wc HBB q0 y0 y1 y2 y3 y4 y5
            have HW0 := Lib.hid (And.intro HA7.out (And.intro HEC7.out HG7.out))
            clear HA7 HEC7 HG7
            go_wp2_with fail
            go_loopw [12, 63] (fun _ iv wx => ∃ j : Nat, j ≤ 2 ∧ iv = .int .i64 (j : Int) ∧ Hid (KHd w wx U6 g K2 (128 + ytot (os.take (k + 1))) ∧ wx.heap[ge]? = some (.cells #[.bool (if j = 0 then eA else eA2), .bool (if j ≤ 1 then eB else eB2)] 57 (0, 0)) ∧ wx.heap[ga]? = some (.cells #[.int .i64 n1, .string xb, .int .i64 xe, .string yb, .int .i64 ye, .int .i64 e1] 53 (0, 0)))) (fun _ iv _ => 2 - (intOf iv).toNat)
            case atStart => exact ⟨0, by decide, rfl, HW0⟩
            case round =>
              clear HW0
              obtain ⟨j, hj, rfl, HW1⟩ := hrel
              obtain ⟨y0, y1, y2, y3, y4, y5⟩ := (yan_at (a := ⟨n1, ⟨xb, xe⟩, ⟨yb, ye⟩, e1⟩) HW1.out.2.2).1
              simp only at y0 y1 y2 y3 y4 y5
              have z0 := cell_of_row _ _ 0 _ _ _ HW1.out.2.1
              have z1 := cell_of_row _ _ 1 _ _ _ HW1.out.2.1
              have f0 : wr.frozen? ⟨ge, 0, none⟩ = false := gb.frozen_at HW1.out.2.1
              have f1 : wr.frozen? ⟨ge, 1, none⟩ = false := gb.frozen_at HW1.out.2.1
              have hgl := gb.blk_lt HW1.out.2.1
              rcases (show j = 0 ∨ j = 1 ∨ j = 2 by omega) with rfl | rfl | rfl
              · rw [show ((0 : Nat) : Int) = 0 from rfl]
                simp only [if_true, Nat.zero_le] at z0 z1
                have HSET := Lib.hid (brk_set (j := 0) HW1.out HEN7.out hbe HNE.out.1 (by decide))
                rcases HA1.out with ⟨q1, q2, q3, q4⟩ | ⟨q1, q2, q3, q4⟩ | ⟨q1, q2, q3⟩
                · subst q1 q2 q3 q4
                  cases B
                  all_goals
                    clear HW1
                    go_wp2_with fail
                    go_roundw
                    case rel => exact ⟨1, by decide, by first | rfl | go_num, HSET⟩
                    case measure => simp [intOf]
                · subst q1 q2 q3 q4
                  clear HW1
                  go_wp2_with fail
                  go_roundw
                  case rel => exact ⟨1, by decide, by first | rfl | go_num, HSET⟩
                  case measure => simp [intOf]
                · subst q1 q2
                  have d1 : (xe == 0) = false := by simpa using q3
                  have d2 : (xe != 0) = true := by simpa using q3
                  have d3 : decide (xe = 0) = false := by simpa using q3
                  cases B
                  all_goals
                    clear HW1
                    go_wp2_with fail
                    go_roundw
                    case rel => exact ⟨1, by decide, by first | rfl | go_num, HSET⟩
                    case measure => simp [intOf]
              · rw [show ((1 : Nat) : Int) = 1 from rfl]
                simp only [if_true, Nat.one_ne_zero, if_false, Nat.le_refl] at z0 z1
                have HSET := Lib.hid (brk_set (j := 1) HW1.out HEN7.out hbe HNE.out.1 (by decide))
                rcases HB1.out with ⟨q1, q2, q3, q4⟩ | ⟨q1, q2, q3, q4⟩ | ⟨q1, q2, q3⟩
                · subst q1 q2 q3 q4
                  cases B
                  all_goals
                    clear HW1
                    go_wp2_with fail
                    go_roundw
                    case rel => exact ⟨2, by decide, by first | rfl | go_num, HSET⟩
                    case measure => simp [intOf]
                · subst q1 q2 q3 q4
                  clear HW1
                  go_wp2_with fail
                  go_roundw
                  case rel => exact ⟨2, by decide, by first | rfl | go_num, HSET⟩
                  case measure => simp [intOf]
                · subst q1 q2
                  have d1 : (ye == 0) = false := by simpa using q3
                  have d2 : (ye != 0) = true := by simpa using q3
                  have d3 : decide (ye = 0) = false := by simpa using q3
                  cases B
                  all_goals
                    clear HW1
                    go_wp2_with fail
                    go_roundw
                    case rel => exact ⟨2, by decide, by first | rfl | go_num, HSET⟩
                    case measure => simp [intOf]
              · simp only [show ¬ (2 : Nat) = 0 by decide, show ¬ (2 : Nat) ≤ 1 by decide, if_false] at z0 z1 HW1
                rw [show ((2 : Nat) : Int) = 2 from rfl]
                have HOC := Lib.hid (fun (W : World) (hb : Below wr.heap.size wr W) => (iover (HW1.out.1.on hb).1).mono fun e w' he => (show e = .returned (.bool (eA2 && eB2)) ∧ Below W.heap.size W w' from ⟨by rw [he.1, ← HE2.out.1, ← HE2.out.2, Bool.decide_and], he.2⟩))
                have HSC := Lib.hid (fun (W : World) (hb : Below wr.heap.size wr W) => (show W.cell? ⟨ge, 0, none⟩ = some (.bool eA2) ∧ W.cell? ⟨ge, 1, none⟩ = some (.bool eB2) from ⟨cell_of_row _ _ 0 _ _ _ ((hb.block _ hgl).trans HW1.out.2.1), cell_of_row _ _ 1 _ _ _ ((hb.block _ hgl).trans HW1.out.2.1)⟩))
                have HS0 := Lib.hid (HSC.out wr.drew (Below.refl _ _).drew)
                have HFIN := Lib.hid (fun (W : World) (hb : Below wr.heap.size wr W) => (show KHd w W U6 g K2 (128 + ytot (os.take (k + 1))) ∧ W.heap[ge]? = some (.cells #[.bool (decide (K2.A.fin ≠ 0)), .bool (decide (K2.B.fin ≠ 0))] 57 (0, 0)) from ⟨HW1.out.1.on hb, by rw [HE2.out.1, HE2.out.2]; exact (hb.block _ hgl).trans HW1.out.2.1⟩))
                clear y0 y1 y2 y3 y4 y5 z0 z1 f0 f1 HW1 HE2
                go_upto_region 18 with fail
                cases eA2 with
                | false =>
                  rw [Bool.false_and] at HOC
                  refine wp_region_held_drew (S := fun w' => (w'.cell? ⟨ge, 0, none⟩ = some (.bool false) ∧ w'.cell? ⟨ge, 1, none⟩ = some (.bool eB2)) ∧ True) (by kernel_rfl) ⟨HS0.out, trivial⟩ (fun hHeld => ?_)
                  refine wpAnyH_take (i := 0) (oi := { dst := some 116, op := Op.move (Operand.tmp 5), type := 29, pos := _, after := #[], guard := none }) (v := ?vz0) rfl (by kernel_rfl) (by kernel_rfl) (by kernel_rfl) (fun _ _ _ h => h) (Or.inl ⟨by rfl, ?hyz0⟩) hHeld ?restz0
                  case hyz0 =>
                    intro w hSw
                    clear hSw
                    (go_simp <;> with_reducible rfl)
                  simp only [Act.put, List.setIfInBounds_toArray, List.set_cons_zero, List.set_cons_succ]
                  refine wpAnyH_take (i := 2) (oi := { dst := some 118, op := Op.indexAddr 57 (Operand.tmp 7) (Operand.const (Value.int IntKind.i64 0)), type := 0, pos := _, after := #[], guard := none }) (v := ?vz2) rfl (by kernel_rfl) (by kernel_rfl) (by kernel_rfl) (fun _ _ _ h => h) (Or.inl ⟨by rfl, ?hyz2⟩) hHeld ?restz2
                  case hyz2 =>
                    intro w hSw
                    clear hSw
                    (go_simp <;> with_reducible rfl)
                  simp only [Act.put, List.setIfInBounds_toArray, List.set_cons_zero, List.set_cons_succ]
                  refine wpAnyH_take (i := 3) (oi := { dst := some 119, op := Op.load 4 (Operand.tmp 118), type := 4, pos := _, after := #[{ on := 2, ground := Ground.data }], guard := none }) (v := ?vz3) rfl (by kernel_rfl) (by kernel_rfl) (by kernel_rfl) (fun _ _ _ h => h) (Or.inl ⟨by rfl, ?hyz3⟩) hHeld ?restz3
                  case hyz3 =>
                    intro w hSw
                    obtain ⟨⟨c0, c1⟩, _⟩ := hSw
                    (go_simp <;> with_reducible rfl)
                  simp only [Act.put, List.setIfInBounds_toArray, List.set_cons_zero, List.set_cons_succ]
                  refine wpAnyH_ready (rs := [1]) (by kernel_rfl) (by simp) ?_
                  refine AllReadyH.cons (o := { dst := some 117, op := Op.call { callee := Callee.value (Operand.func 17), args := #[Operand.tmp 116], argTypes := #[29] }, type := 4, pos := _, after := #[{ on := 0, ground := Ground.data }], guard := none }) rfl (fun K hK => ?_) AllReadyH.nil
                  go_simp
                  go_at_call 17
                  refine Calls.mono (HOC.out _ (Below.refl _ _).drew) ?_
                  rintro e w9 ⟨rfl, hb9⟩
                  have HB9 := Lib.hid (show Below wr.heap.size wr w9 from (Below.refl _ wr).drew.trans hb9)
                  have HS1 := Lib.hid (HSC.out w9 HB9.out)
                  clear hb9
                  refine hK.out _ _ ⟨HS1.out, trivial⟩ (fun hHeld1 => ?_)
                  clear hK K hHeld
                  refine wpAnyH_take (i := 4) (oi := { dst := some 120, op := Op.move (Operand.tmp 119), type := 4, pos := _, after := #[{ on := 3, ground := Ground.data }, { on := 1, ground := Ground.chain }], guard := none }) (v := ?vz4) rfl (by kernel_rfl) (by kernel_rfl) (by kernel_rfl) (fun _ _ _ h => h) (Or.inl ⟨by rfl, ?hyz4⟩) hHeld1 ?restz4
                  case hyz4 =>
                    intro w hSw
                    clear hSw
                    (go_simp <;> with_reducible rfl)
                  simp only [Act.put, List.setIfInBounds_toArray, List.set_cons_zero, List.set_cons_succ]
                  refine wpAnyH_take (i := 5) (oi := { dst := some 121, op := Op.indexAddr 57 (Operand.tmp 7) (Operand.const (Value.int IntKind.i64 1)), type := 0, pos := _, after := #[{ on := 4, ground := Ground.guard }], guard := some (4, true) }) (v := undef) rfl (by kernel_rfl) (by kernel_rfl) (by kernel_rfl) (fun _ _ _ h => h) (Or.inr ⟨by rfl, rfl⟩) hHeld1 ?_
                  simp only [Act.put, List.setIfInBounds_toArray, List.set_cons_zero, List.set_cons_succ]
                  refine wpAnyH_take (i := 6) (oi := { dst := some 122, op := Op.load 4 (Operand.tmp 121), type := 4, pos := _, after := #[{ on := 5, ground := Ground.data }, { on := 4, ground := Ground.guard }], guard := some (4, true) }) (v := undef) rfl (by kernel_rfl) (by kernel_rfl) (by kernel_rfl) (fun _ _ _ h => h) (Or.inr ⟨by rfl, rfl⟩) hHeld1 ?_
                  simp only [Act.put, List.setIfInBounds_toArray, List.set_cons_zero, List.set_cons_succ]
                  refine wpAnyH_take (i := 7) (oi := { dst := some 123, op := Op.pick (Operand.tmp 120) (Operand.tmp 122) (Operand.const (Value.bool false)), type := 4, pos := _, after := #[{ on := 4, ground := Ground.data }, { on := 6, ground := Ground.data }], guard := none }) (v := ?vz7) rfl (by kernel_rfl) (by kernel_rfl) (by kernel_rfl) (fun _ _ _ h => h) (Or.inl ⟨by rfl, ?hyz7⟩) hHeld1 ?restz7
                  case hyz7 =>
                    intro w hSw
                    clear hSw
                    (go_simp <;> with_reducible rfl)
                  simp only [Act.put, List.setIfInBounds_toArray, List.set_cons_zero, List.set_cons_succ]
                  refine wpAnyH_take (i := 8) (oi := { dst := some 124, op := Op.binOp BinOp.neq 4 (Operand.tmp 117) (Operand.tmp 123) 4, type := 4, pos := _, after := #[{ on := 1, ground := Ground.data }, { on := 7, ground := Ground.data }], guard := none }) (v := ?vz8) rfl (by kernel_rfl) (by kernel_rfl) (by kernel_rfl) (fun _ _ _ h => h) (Or.inl ⟨by rfl, ?hyz8⟩) hHeld1 ?restz8
                  case hyz8 =>
                    intro w hSw
                    clear hSw
                    (go_simp <;> with_reducible rfl)
                  simp only [Act.put, List.setIfInBounds_toArray, List.set_cons_zero, List.set_cons_succ]
                  refine wpAnyH_done (by kernel_rfl) ?_ _
                  have HF := Lib.hid (HFIN.out w9 HB9.out)
                  have HKH := Lib.hid HF.out.1
                  have HEC := Lib.hid HF.out.2
                  clear HFIN HF HSC HS0 HS1 HOC
                  go_wp2_with fail
                  go_roundw
                  case rel => exact ⟨k + 1, K2, U6, by omega, by go_num, HKH, HOV, HEC, HEN7⟩
                  case measure => simp [intOf]; omega
                | true =>
                  rw [Bool.true_and] at HOC
                  cases eB2
                  · go_region_held (fun W => W.cell? ⟨ge, 0, none⟩ = some (.bool true) ∧ W.cell? ⟨ge, 1, none⟩ = some (.bool false)) (first | with_reducible exact HS0.out | with_reducible exact HS1.out) (first | (go_at_call 17; (with_reducible refine Calls.mono (HOC.out _ (Below.refl _ _).drew) ?_); rintro e w9 ⟨rfl, hb9⟩; have HB9 := Lib.hid (show Below wr.heap.size wr w9 from (Below.refl _ wr).drew.trans hb9); have HS1 := Lib.hid (HSC.out w9 HB9.out); clear hb9))
                    have HF := Lib.hid (HFIN.out w9 HB9.out)
                    have HKH := Lib.hid HF.out.1
                    have HEC := Lib.hid HF.out.2
                    clear HFIN HF HSC HS0 HS1 HOC
                    go_wp2_with fail
                    go_roundw
                    case rel => exact ⟨k + 1, K2, U6, by omega, by go_num, HKH, HOV, HEC, HEN7⟩
                    case measure => simp [intOf]; omega
                  · go_region_held (fun W => W.cell? ⟨ge, 0, none⟩ = some (.bool true) ∧ W.cell? ⟨ge, 1, none⟩ = some (.bool true)) (first | with_reducible exact HS0.out | with_reducible exact HS1.out) (first | (go_at_call 17; (with_reducible refine Calls.mono (HOC.out _ (Below.refl _ _).drew) ?_); rintro e w9 ⟨rfl, hb9⟩; have HB9 := Lib.hid (show Below wr.heap.size wr w9 from (Below.refl _ wr).drew.trans hb9); have HS1 := Lib.hid (HSC.out w9 HB9.out); clear hb9))
                    have HF := Lib.hid (HFIN.out w9 HB9.out)
                    have HKH := Lib.hid HF.out.1
                    have HEC := Lib.hid HF.out.2
                    clear HFIN HF HSC HS0 HS1 HOC
                    go_wp2_with fail
                    go_roundw
                    case rel => exact ⟨k + 1, K2, U6, by omega, by go_num, HKH, HOV, HEC, HEN7⟩
                    case measure => simp [intOf]; omega
        · have d1 : (kd != 3) = true := by simpa using h3
          have d2 : decide (kd = 3) = false := by simpa using h3
          have hc := HHC.out h3
          have HOV := Lib.hid hc.1
          have HEF := Lib.hid (show w7.heap[ge]? = some (.cells #[.bool (decide (K2.A.fin ≠ 0)), .bool (decide (K2.B.fin ≠ 0))] 57 (0, 0)) from by rw [decide_eq_decide.2 hc.2.1, decide_eq_decide.2 hc.2.2]; exact HEC7.out)
          clear hc h3 HHC HHS HEC7
          go_wp2_with fail
          go_roundw
          case rel => exact ⟨k + 1, K2, U6, by omega, by go_num, HA7, HOV, HEF, HEN7⟩
          case measure => simp [intOf]; omega
      · obtain rfl : k = m := by omega
        clear hlt hk
        go_wp2_with fail
        refine (yalive _).mono ?_
        rintro e w5 ⟨rfl, hb5⟩
        have HB5 := Lib.hid (HA.out.on hb5).2.2
        clear hb5 HA
        go_wp2_with fail
        go_ret
        exact ⟨rfl, HB5.out⟩
end connBroken
end Go.Proofs.YtdighjgcnaajgaaGreat

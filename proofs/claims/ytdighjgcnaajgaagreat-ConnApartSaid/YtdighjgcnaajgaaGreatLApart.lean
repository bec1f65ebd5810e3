/-
  The walk of chicanelaw13.ConnApart: it returns true, whatever calls. Conditions: as each states.
-/
import Derived.Test.YtdighjgcnaajgaaGreatMT8
import Derived.Deep.CutRange
namespace Go.Proofs.YtdighjgcnaajgaaGreat
open Go.RowKit
namespace connApart
set_option maxRecDepth 100000 in
set_option maxHeartbeats 8000000 in
theorem no_new (pl : Option Addr) (nl dl : Nat) (l : List Tox) (seed room now : Int) (p : Option Addr) (m d : Nat) (w : World) (hl : l.length = nl) (hnd : nl ≤ dl) (hzl : ∀ t ∈ l, t.s.size ≤ 140737488351232) (hil : ToxIn w pl nl l) (hE : newLE l room ≠ 0) :
    Calls Tryz.prog 6 #[.agg #[.slice pl nl dl, .int .u64 seed, .int .i64 room, .int .i64 now], .slice p m d] w fun e w' => e = .returned (.bool true) ∧ Below w.heap.size w w' := by
  have hal : Below w.heap.size w (w.alloc (.cells #[.slice pl nl dl, .int .u64 seed, .int .i64 room, .int .i64 now] 25)) := (Below.refl _ _).alloc (Nat.le_refl _) _
  have HN := Lib.hid (fun (W : World) (hb : Below w.heap.size w W) => knew_no pl nl dl l seed room now W hl hnd hzl (toxs_on hil hb) hE)
  have hnew := heap_alloc_new w (.cells #[.slice pl nl dl, .int .u64 seed, .int .i64 room, .int .i64 now] 25)
  have HA := Lib.hid hal
  have d1 : (newLE l room != 0) = true := by simpa using hE
  have d2 : decide (newLE l room = 0) = false := by simpa using hE
  generalize newLE l room = E at *
  clear hE hal hl hzl hil
  go_enter Tryz.func6, Tryz.ntmps6
  go_wp2_with fail
  refine (HN.out _ HA.out).mono ?_
  rintro e w1 ⟨rfl, hb⟩
  have HB1 := Lib.hid (HA.out.trans (hb.mono HA.out.size))
  have hnw := (hb.block _ (gb.blk_lt hnew)).trans hnew
  have hs0 := cell_of_row w1 w.heap.size 0 _ _ _ hnw
  have hs1 := cell_of_row w1 w.heap.size 1 _ _ _ hnw
  have hs2 := cell_of_row w1 w.heap.size 2 _ _ _ hnw
  have hs3 := cell_of_row w1 w.heap.size 3 _ _ _ hnw
  clear hb hnew hnw
  go_wp2_with fail
  refine (HN.out _ HB1.out).mono ?_
  rintro e w2 ⟨rfl, hb⟩
  have HB2 := Lib.hid (HB1.out.trans (hb.mono HB1.out.size))
  clear hb HN HA HB1
  go_wp2_with fail
  refine (yalive _).mono ?_
  rintro e w3 ⟨rfl, hb⟩
  have HB3 := Lib.hid (HB2.out.trans (hb.mono HB2.out.size))
  clear hb
  go_wp2_with fail
  go_ret
  exact ⟨rfl, HB3.out⟩
set_option maxRecDepth 100000 in
set_option maxHeartbeats 16000000 in
theorem walk (pl : Option Addr) (nl dl : Nat) (l : List Tox) (seed room now : Int) (p : Option Addr) (m d : Nat) (os : List YOp) (w : World) (hl : l.length = nl) (hnd : nl ≤ dl) (hzl : ∀ t ∈ l, t.s.size ≤ 140737488351232) (hil : ToxIn w pl nl l) (hx : os.length = m) (hmd : m ≤ d) (hd : d ≤ 9223372036854775807) (hz : ∀ o ∈ os, o.s.size ≤ 140737488351232 ∧ o.t.s.size ≤ 140737488351232) (hj : YopsIn w p m os) :
    Calls Tryz.prog 6 #[.agg #[.slice pl nl dl, .int .u64 seed, .int .i64 room, .int .i64 now], .slice p m d] w fun e w' => e = .returned (.bool true) ∧ Below w.heap.size w w' := by
  by_cases hE : newLE l room ≠ 0
  · exact no_new pl nl dl l seed room now p m d w hl hnd hzl hil hE
  have hE0 : newLE l room = 0 := by omega
  have HX := Lib.hid hx
  have HJ := Lib.hid hj
  have HZ := Lib.hid hz
  have hal : Below w.heap.size w (w.alloc (.cells #[.slice pl nl dl, .int .u64 seed, .int .i64 room, .int .i64 now] 25)) := (Below.refl _ _).alloc (Nat.le_refl _) _
  have HN := Lib.hid (knew pl nl dl l seed room now (w.alloc (.cells #[.slice pl nl dl, .int .u64 seed, .int .i64 room, .int .i64 now] 25)) hl hnd hzl (toxs_on hil hal) hE0)
  have HIL := Lib.hid (And.intro hl hil)
  have HN2 := Lib.hid (fun (W : World) (hb : Below w.heap.size w W) => knew pl nl dl l seed room now W hl hnd hzl (toxs_on hil hb) hE0)
  have HAL := Lib.hid hal
  have hnew := heap_alloc_new w (.cells #[.slice pl nl dl, .int .u64 seed, .int .i64 room, .int .i64 now] 25)
  clear hE hE0 hal hl hzl hil hx hz hj
  go_enter Tryz.func6, Tryz.ntmps6
  go_wp2_with fail
  refine HN.out.mono ?_
  rintro e w1 ⟨ga, Va, rfl, h1, hm1, hm2⟩
  have hnw1 := (h1.2.2.block _ (gb.blk_lt hnew)).trans hnew
  have hs0 := cell_of_row w1 w.heap.size 0 _ _ _ hnw1
  have hs1 := cell_of_row w1 w.heap.size 1 _ _ _ hnw1
  have hs2 := cell_of_row w1 w.heap.size 2 _ _ _ hnw1
  have hs3 := cell_of_row w1 w.heap.size 3 _ _ _ hnw1
  have HA1 := Lib.hid (h1.base HAL.out)
  have HMK := Lib.hid (And.intro hm1 hm2)
  clear h1 hm1 hm2 HN HAL hnew
  go_wp2_with fail
  refine (HN2.out _ HA1.out.2.2).mono ?_
  rintro e w2 ⟨g, V, rfl, h1, _, _⟩
  have hnw2 := (h1.2.2.block _ (gb.blk_lt hnw1)).trans hnw1
  clear hs0 hs1 hs2 hs3
  have hs0 := cell_of_row w2 w.heap.size 0 _ _ _ hnw2
  have hs1 := cell_of_row w2 w.heap.size 1 _ _ _ hnw2
  have hs2 := cell_of_row w2 w.heap.size 2 _ _ _ hnw2
  have hs3 := cell_of_row w2 w.heap.size 3 _ _ _ hnw2
  have HNW2 := Lib.hid hnw2
  have HAA := Lib.hid (HA1.out.on h1.2.2)
  have HPP := Lib.hid (show ∀ i, Va i → ¬ V i from fun i hi hv => by have := h1.2.1 i hv; have := krep_lt HA1.out.1 hi; omega)
  have HA2 := Lib.hid (h1.base HA1.out.2.2)
  have HK0 := Lib.hid (show (Cn.newC l seed room now l.length).A = Lk.newL l 0 seed room now ∧ (Cn.newC l seed room now l.length).B = Lk.newL l 1 seed room now from ⟨rfl, rfl⟩)
  clear h1 HA1 HN2 hnw1 hnw2
  generalize Cn.newC l seed room now l.length = k0 at *
  go_wp2_with fail
  refine (kfew_any pl nl dl seed room now p m d os _ HX.out hmd hd HZ.out (yops_on HJ.out HA2.out.2.2)).mono ?_
  rintro e w3 ⟨b, rfl, hf, hb⟩
  have HA3 := Lib.hid (HA2.out.on hb)
  have HB3 := Lib.hid (HAA.out.on hb)
  have hnw3 := (hb.block _ (gb.blk_lt HNW2.out)).trans HNW2.out
  have HF := Lib.hid hf
  clear hb hf HA2 HAA hs0 hs1 hs2 hs3 hmd hd HNW2
  cases b with
  | false =>
    clear HF
    go_wp2_with fail
    refine (yalive _).mono ?_
    rintro e w5 ⟨rfl, hb5⟩
    have HB5 := Lib.hid (HA3.out.on hb5).2.2
    clear hb5
    go_wp2_with fail
    go_ret
    exact ⟨rfl, HB5.out⟩
  | true =>
    obtain ⟨hnl, hm, htt⟩ := HF.out rfl
    have HT := Lib.hid htt
    clear HF htt
    have hs0 := cell_of_row w3 w.heap.size 0 _ _ _ hnw3
    clear hnw3
    go_wp2_with fail
    go_loopw [10, 63] (fun _ i wr => ∃ k : Nat, k ≤ nl ∧ i = .int .i64 (k : Int) ∧ Hid (Below w3.heap.size w3 wr) ∧ Hid (∀ t ∈ l.take k, t.k ≠ 5)) (fun _ i _ => nl - (intOf i).toNat)
    case atStart => exact ⟨0, Nat.zero_le _, rfl, Lib.hid (Below.refl _ _), Lib.hid (fun t ht => by cases ht)⟩
    case round =>
      clear hs0
      obtain ⟨k, hk, rfl, HB, HR⟩ := hrel
      by_cases hlt : k < nl
      · obtain ⟨bl, o, rfl, hcell⟩ := toxs_on HIL.out.2 (below_two HB3.out.2.2 HB.out) (by omega)
        obtain ⟨c0, c1, c2, c3, c4, c5⟩ := hcell k hlt
        have HTK := Lib.hid (take_next (show k < l.length by rw [HIL.out.1]; exact hlt))
        generalize l.getD k noTox = tx at *
        rw [← Nat.add_assoc] at c1 c2 c3 c4 c5
        have hal : Below wr.heap.size wr (wr.alloc (toxObj tx)) := (Below.refl _ _).alloc (Nat.le_refl _) _
        have HBN := Lib.hid (below_two HB.out hal)
        have hnew := heap_alloc_new wr (toxObj tx)
        unfold toxObj at HBN hnew
        clear hcell hal HB
        go_upto_region 8 with fail
        generalize wr.alloc (.cells #[.string tx.s, .int .i64 tx.k, .bool tx.up, .int .i64 tx.o, .int .i64 tx.a, .int .i64 tx.b] 46) = w4 at *
        generalize wr.heap.size = gt at *
        have u1 := cell_of_row w4 _ 1 _ _ _ hnew
        clear c0 c1 c2 c3 c4 c5 hnew
        by_cases h5 : tx.k = 5
        · have d1 : (tx.k == 5) = true := by simpa using h5
          have d2 : decide (tx.k = 5) = true := by simpa using h5
          have HB4 := Lib.hid (HB3.out.on HBN.out).2.2
          clear h5
          go_wp2_with fail
          refine (yalive _).mono ?_
          rintro e w5 ⟨rfl, hb5⟩
          have HB5 := Lib.hid (below_two HB4.out hb5)
          clear hb5
          go_wp2_with fail
          go_ret
          exact ⟨rfl, HB5.out⟩
        · have d1 : (tx.k == 5) = false := by simpa using h5
          have d2 : decide (tx.k = 5) = false := by simpa using h5
          have HR2 := Lib.hid (show ∀ t ∈ l.take (k + 1), t.k ≠ 5 from fun t ht => by
            rw [HTK.out] at ht
            rcases List.mem_append.1 ht with h | h
            · exact HR.out t h
            · rw [List.mem_singleton.1 h]
              exact h5)
          clear h5 HR
          go_wp2_with fail
          go_roundw
          case rel => exact ⟨k + 1, by omega, by go_num, HBN, HR2⟩
          case measure => simp [intOf]; omega
      · obtain rfl : k = nl := by omega
        have hres : ∀ t ∈ l, t.k ≠ 5 := fun t ht => HR.out t (by rw [← HIL.out.1, List.take_length]; exact ht)
        have HCM := Lib.hid (show k0.Calm from by unfold Cn.Calm; rw [HK0.out.1, HK0.out.2]; exact ⟨calm_new HMK.out.1 hres, calm_new HMK.out.2 hres⟩)
        have HW0 := Lib.hid (show ApZ w wr Va V ga g k0 k0 128 from ⟨HB3.out.on HB.out, HA3.out.on HB.out, HPP.out, HCM.out, HCM.out, rfl⟩)
        clear hres HCM HR HB HMK HK0 HIL hlt hk HB3 HA3 HPP
        go_wp2_with fail
        go_loopw [12, 13, 14, 74] (fun _ _ _ i wx => ∃ (j : Nat) (Ka Kb : Cn) (Ua U1 : Own), j ≤ m ∧ i = .int .i64 (j : Int) ∧ Hid (ApZ w wx Ua U1 ga g Ka Kb (128 + ytot (os.take j)))) (fun _ _ _ i _ => m - (intOf i).toNat)
        case atStart => exact ⟨0, k0, k0, Va, V, by omega, rfl, HW0⟩
        case round =>
          clear HW0
          obtain ⟨j, Ka, Kb, Ua, U1, hj, rfl, HZZ⟩ := hrel
          by_cases hlt : j < m
          · obtain ⟨bo, oo, rfl, hcell⟩ := yops_on HJ.out HZZ.out.a.2.2 (by omega)
            obtain ⟨c0, c1, c2, c3, c4, c5, c6, c7, c8, c9, c10, c11⟩ := hcell j hlt
            have hzk := HZ.out _ (yat_of os j (by rw [HX.out]; exact hlt))
            have HTK := Lib.hid (ytot_step os j m HX.out hlt _ rfl)
            have HTL := Lib.hid (Nat.le_trans (ytot_take_le os (j + 1)) HT.out)
            generalize os.getD j noYop = op at *
            have hts : op.t.s.size ≤ maxLen := by unfold maxLen; have := hzk.2; omega
            have hMM : 128 + ytot (os.take j) + (op.s.size + op.t.s.size) ≤ 128 + ytot (os.take (j + 1)) := by have := HTK.out; omega
            have hf4 : 128 + ytot (os.take (j + 1)) ≤ 400000 := by have := HTL.out; omega
            have HDA := Lib.hid (fun (W : World) (hb : Below wr.heap.size wr W) => kdoes (HZZ.out.a.on hb) op hts hMM hf4)
            have HDB := Lib.hid (fun (W : World) (h : KHd w W U1 g Kb (128 + ytot (os.take j))) => kdoes h op hts hMM hf4)
            have HCA := Lib.hid (fun hk => Cn.calm_do HZZ.out.ca op hk)
            have HCB := Lib.hid (fun hk => (Cn.calm_do HZZ.out.cb op hk).1)
            have HSM := Lib.hid (fun hk hw => Cn.calm_same HZZ.out.ca HZZ.out.cb HZZ.out.eq op hk hw)
            have HMR := Lib.hid (And.intro (show 128 + ytot (os.take j) ≤ 128 + ytot (os.take (j + 1)) by omega) hf4)
            obtain ⟨M2, hM2⟩ : ∃ M2, 128 + ytot (os.take (j + 1)) = M2 := ⟨_, rfl⟩
            rw [hM2] at HDA HDB HMR
            have HM2 := Lib.hid hM2
            clear hM2
            generalize 128 + ytot (os.take j) = M1 at *
            generalize Ka.doK op = Ka2 at *
            generalize Kb.doK op = Kb2 at *
            generalize Ka.ansK op = aa at *
            generalize Kb.ansK op = ab at *
            obtain ⟨kd, wy, T, N, N2, b0, tx⟩ := op
            obtain ⟨us, uk, uu, uo, ua, ub⟩ := tx
            unfold yopV at HDA HDB
            simp only at c0 c1 c2 c3 c4 c5 c6 c7 c8 c9 c10 c11 HDA HDB HCA HCB HSM
            rw [← Nat.add_assoc] at c1 c2 c3 c4 c5 c6 c7 c8 c9 c10 c11
            have hal : Below wr.heap.size wr (wr.alloc (.cells #[.int .i64 kd, .int .i64 wy, .int .i64 T, .int .i64 N, .int .i64 N2, .string b0, .string us, .int .i64 uk, .bool uu, .int .i64 uo, .int .i64 ua, .int .i64 ub] 48)) := (Below.refl _ _).alloc (Nat.le_refl _) _
            have hnew := heap_alloc_new wr (.cells #[.int .i64 kd, .int .i64 wy, .int .i64 T, .int .i64 N, .int .i64 N2, .string b0, .string us, .int .i64 uk, .bool uu, .int .i64 uo, .int .i64 ua, .int .i64 ub] 48)
            have HZ4 := Lib.hid (HZZ.out.on hal)
            have HU4 := Lib.hid (And.intro (HZZ.out.a.new (Nat.le_refl wr.heap.size)) (HZZ.out.b.new (Nat.le_refl wr.heap.size)))
            have HD4 := Lib.hid (HDA.out _ hal)
            clear hal HZZ HDA hcell hzk hts hMM hf4 HTK HTL
            go_upto_region 14 with fail
            generalize wr.alloc (.cells #[.int .i64 kd, .int .i64 wy, .int .i64 T, .int .i64 N, .int .i64 N2, .string b0, .string us, .int .i64 uk, .bool uu, .int .i64 uo, .int .i64 ua, .int .i64 ub] 48) = w4 at *
            generalize wr.heap.size = go at *
            clear c0 c1 c2 c3 c4 c5 c6 c7 c8 c9 c10 c11
            have o0 := cell_of_row w4 go 0 _ _ _ hnew
            have HO4 := Lib.hid hnew
            clear hnew
            by_cases hk : kd = 0 ∨ kd = 1 ∨ kd = 3
            · have o1 := cell_of_row w4 go 1 _ _ _ HO4.out
              have o2 := cell_of_row w4 go 2 _ _ _ HO4.out
              have o3 := cell_of_row w4 go 3 _ _ _ HO4.out
              have o4 := cell_of_row w4 go 4 _ _ _ HO4.out
              have o5 := cell_of_row w4 go 5 _ _ _ HO4.out
              have o6 := cell_of_row w4 go 6 _ _ _ HO4.out
              have o7 := cell_of_row w4 go 7 _ _ _ HO4.out
              have o8 := cell_of_row w4 go 8 _ _ _ HO4.out
              have o9 := cell_of_row w4 go 9 _ _ _ HO4.out
              have o10 := cell_of_row w4 go 10 _ _ _ HO4.out
              have o11 := cell_of_row w4 go 11 _ _ _ HO4.out
              have HCA := Lib.hid (HCA.out hk)
              have HCB := Lib.hid (HCB.out hk)
              have HSM := Lib.hid (HSM.out hk)
              have HKK := Lib.hid hk
              have d1 : decide (kd < 0) = false := decide_eq_false (by omega)
              have d2 : (kd == 2) = false := by simp; omega
              have d3 : decide (kd = 2) = false := decide_eq_false (by omega)
              have d4 : decide (3 < kd) = false := decide_eq_false (by omega)
              clear hk
              go_upto_region 15 with fail
              clear d1 d2 d3 d4
              go_wp2_with fail
              refine HD4.out.mono ?_
              rintro e w6 ⟨rfl, U6, h6, hr6⟩
              obtain ⟨n1, ⟨xb, xe⟩, ⟨yb, ye⟩, e1⟩ := aa
              unfold yanV
              dsimp only
              have hk6 : w6.heap[go]? = _ ∧ ¬ U6 go := ⟨(hr6 go (gb.blk_lt HO4.out) HU4.out.1).1.trans HO4.out, (hr6 go (gb.blk_lt HO4.out) HU4.out.1).2⟩
              obtain ⟨hb6, hap6⟩ := ap_keep HZ4.out.b hr6 HZ4.out.ap h6.2.2
              have HCC := Lib.hid (And.intro HZ4.out.cb HZ4.out.eq)
              have hal : Below w6.heap.size w6 (w6.alloc (.cells #[.int .i64 n1, .string xb, .int .i64 xe, .string yb, .int .i64 ye, .int .i64 e1] 53)) := (Below.refl _ _).alloc (Nat.le_refl _) _
              have HA7 := Lib.hid (h6.on hal)
              have HB7 := Lib.hid (hb6.on hal)
              have HAP := Lib.hid hap6
              have HO7 := Lib.hid ((hal.block _ (gb.blk_lt hk6.1)).trans hk6.1)
              have HG7 := Lib.hid (heap_alloc_new w6 (.cells #[.int .i64 n1, .string xb, .int .i64 xe, .string yb, .int .i64 ye, .int .i64 e1] 53))
              have HN7 := Lib.hid (And.intro (h6.new (Nat.le_refl w6.heap.size)) (hb6.new (Nat.le_refl w6.heap.size)))
              have hgo : ¬ U1 go := HU4.out.2
              have HUO := Lib.hid hgo
              clear hal h6 hr6 hk6 hb6 hap6 HD4 HZ4 HO4 HU4 hgo o0 o1 o2 o3 o4 o5 o6 o7 o8 o9 o10 o11
              go_upto_region 16 with fail
              generalize w6.alloc (.cells #[.int .i64 n1, .string xb, .int .i64 xe, .string yb, .int .i64 ye, .int .i64 e1] 53) = w7 at *
              generalize w6.heap.size = gp at *
              have q0 := cell_of_row w7 go 0 _ _ _ HO7.out
              have q1 := cell_of_row w7 go 1 _ _ _ HO7.out
              by_cases hs : kd < 2 ∧ wy ≠ 0
              · have d1 : decide (kd < 2) = true := decide_eq_true hs.1
                have d2 : (wy != 0) = true := by simpa using hs.2
                have d3 : decide (wy = 0) = false := decide_eq_false hs.2
                have HR := Lib.hid (show ApZ w w7 U6 U1 ga g Ka2 Kb M2 from ⟨HA7.out, HB7.out.mono HMR.out.1 HMR.out.2, HAP.out, HCA.out.1, HCC.out.1, (HCA.out.2 (by have := hs.1; omega) hs.2).trans HCC.out.2⟩)
                clear hs HA7 HB7 HAP HCA HCC HCB HDB HSM HO7 HG7 HN7 HUO HKK
                go_wp2_with fail
                go_roundw
                case rel => exact ⟨j + 1, Ka2, Kb, U6, U1, by omega, by go_num, by rw [HM2.out]; exact HR⟩
                case measure => simp [intOf]; omega
              · have HSM := Lib.hid (HSM.out (fun h3 => by rcases HKK.out with h | h | h <;> omega))
                have HDB := Lib.hid (HDB.out _ HB7.out)
                have HW7 := Lib.hid (show (kd < 2 ∧ wy = 0) ∨ ¬ kd < 2 by omega)
                clear hs HKK
                have o2 := cell_of_row w7 go 2 _ _ _ HO7.out
                have o3 := cell_of_row w7 go 3 _ _ _ HO7.out
                have o4 := cell_of_row w7 go 4 _ _ _ HO7.out
                have o5 := cell_of_row w7 go 5 _ _ _ HO7.out
                have o6 := cell_of_row w7 go 6 _ _ _ HO7.out
                have o7 := cell_of_row w7 go 7 _ _ _ HO7.out
                have o8 := cell_of_row w7 go 8 _ _ _ HO7.out
                have o9 := cell_of_row w7 go 9 _ _ _ HO7.out
                have o10 := cell_of_row w7 go 10 _ _ _ HO7.out
                have o11 := cell_of_row w7 go 11 _ _ _ HO7.out
                obtain ⟨n2, ⟨xb2, xe2⟩, ⟨yb2, ye2⟩, e2⟩ := ab
                obtain ⟨hz1, hz2, hz3⟩ := HSM.out
                have hz2 : n1 = n2 := hz2
                have hz3 : (⟨xb, xe⟩ : YOut) = ⟨xb2, xe2⟩ := hz3
                have HEQ := Lib.hid hz1
                clear HSM hz1
                subst hz2
                obtain ⟨hz4, hz5⟩ := YOut.mk.inj hz3
                clear hz3
                subst hz4 hz5
                rcases HW7.out with ⟨h2, rfl⟩ | h2
                · have d1 : decide (kd < 2) = true := decide_eq_true h2
                  clear HW7 h2
                  go_upto_region 17 with fail
                  clear d1 q0 q1
                  have q0 := cell_of_row w7 go 0 _ _ _ HO7.out
                  have q1 := cell_of_row w7 go 1 _ _ _ HO7.out
                  go_wp2_with fail
                  refine HDB.out.mono ?_
                  rintro e w8 ⟨rfl, U8, h8, hr8⟩
                  unfold yanV
                  dsimp only
                  obtain ⟨ha8, hap8⟩ := ap_keep HA7.out hr8 (fun i h1 h2 => HAP.out i h2 h1) h8.2.2
                  have hg8 := (hr8 gp (gb.blk_lt HG7.out) HN7.out.2).1.trans HG7.out
                  have hal : Below w8.heap.size w8 (w8.alloc (.cells #[.int .i64 n1, .string xb, .int .i64 xe, .string yb2, .int .i64 ye2, .int .i64 e2] 53)) := (Below.refl _ _).alloc (Nat.le_refl _) _
                  have HZ9 := Lib.hid (show ApZ w _ U6 U8 ga g Ka2 Kb2 M2 from ⟨ha8.on hal, h8.on hal, fun i h1 h2 => hap8 i h2 h1, HCA.out.1, HCB.out, HEQ.out⟩)
                  have HG9 := Lib.hid ((hal.block _ (gb.blk_lt hg8)).trans hg8)
                  have HQ9 := Lib.hid (heap_alloc_new w8 (.cells #[.int .i64 n1, .string xb, .int .i64 xe, .string yb2, .int .i64 ye2, .int .i64 e2] 53))
                  clear hal ha8 hap8 h8 hr8 hg8 q0 q1 o2 o3 o4 o5 o6 o7 o8 o9 o10 o11 HDB HA7 HB7 HO7 HG7 HAP HN7 HEQ HCA HCB
                  go_upto_region 18 with fail
                  generalize w8.alloc (.cells #[.int .i64 n1, .string xb, .int .i64 xe, .string yb2, .int .i64 ye2, .int .i64 e2] 53) = w9 at *
                  generalize w8.heap.size = gq at *
                  obtain ⟨x0, x1, x2, x3, x4, x5⟩ := (yan_at (a := ⟨n1, ⟨xb, xe⟩, ⟨yb, ye⟩, e1⟩) HG9.out).1
                  obtain ⟨y0, y1, y2, y3, y4, y5⟩ := (yan_at (a := ⟨n1, ⟨xb, xe⟩, ⟨yb2, ye2⟩, e2⟩) HQ9.out).1
                  simp only at x0 x1 x2 x3 x4 x5 y0 y1 y2 y3 y4 y5
                  clear HG9 HQ9
                  go_wp2_with fail
                  go_roundw
                  case rel => exact ⟨j + 1, Ka2, Kb2, U6, U8, by omega, by go_num, by rw [HM2.out]; exact HZ9⟩
                  case measure => simp [intOf]; omega
                · have d1 : decide (kd < 2) = false := decide_eq_false h2
                  clear HW7 h2
                  go_upto_region 17 with fail
                  clear d1 q0 q1
                  have q0 := cell_of_row w7 go 0 _ _ _ HO7.out
                  have q1 := cell_of_row w7 go 1 _ _ _ HO7.out
                  go_wp2_with fail
                  refine HDB.out.mono ?_
                  rintro e w8 ⟨rfl, U8, h8, hr8⟩
                  unfold yanV
                  dsimp only
                  obtain ⟨ha8, hap8⟩ := ap_keep HA7.out hr8 (fun i h1 h2 => HAP.out i h2 h1) h8.2.2
                  have hg8 := (hr8 gp (gb.blk_lt HG7.out) HN7.out.2).1.trans HG7.out
                  have hal : Below w8.heap.size w8 (w8.alloc (.cells #[.int .i64 n1, .string xb, .int .i64 xe, .string yb2, .int .i64 ye2, .int .i64 e2] 53)) := (Below.refl _ _).alloc (Nat.le_refl _) _
                  have HZ9 := Lib.hid (show ApZ w _ U6 U8 ga g Ka2 Kb2 M2 from ⟨ha8.on hal, h8.on hal, fun i h1 h2 => hap8 i h2 h1, HCA.out.1, HCB.out, HEQ.out⟩)
                  have HG9 := Lib.hid ((hal.block _ (gb.blk_lt hg8)).trans hg8)
                  have HQ9 := Lib.hid (heap_alloc_new w8 (.cells #[.int .i64 n1, .string xb, .int .i64 xe, .string yb2, .int .i64 ye2, .int .i64 e2] 53))
                  clear hal ha8 hap8 h8 hr8 hg8 q0 q1 o2 o3 o4 o5 o6 o7 o8 o9 o10 o11 HDB HA7 HB7 HO7 HG7 HAP HN7 HEQ HCA HCB
                  go_upto_region 18 with fail
                  generalize w8.alloc (.cells #[.int .i64 n1, .string xb, .int .i64 xe, .string yb2, .int .i64 ye2, .int .i64 e2] 53) = w9 at *
                  generalize w8.heap.size = gq at *
                  obtain ⟨x0, x1, x2, x3, x4, x5⟩ := (yan_at (a := ⟨n1, ⟨xb, xe⟩, ⟨yb, ye⟩, e1⟩) HG9.out).1
                  obtain ⟨y0, y1, y2, y3, y4, y5⟩ := (yan_at (a := ⟨n1, ⟨xb, xe⟩, ⟨yb2, ye2⟩, e2⟩) HQ9.out).1
                  simp only at x0 x1 x2 x3 x4 x5 y0 y1 y2 y3 y4 y5
                  clear HG9 HQ9
                  go_wp2_with fail
                  go_roundw
                  case rel => exact ⟨j + 1, Ka2, Kb2, U6, U8, by omega, by go_num, by rw [HM2.out]; exact HZ9⟩
                  case measure => simp [intOf]; omega
            · have HR := Lib.hid (HZ4.out.more HMR.out.1 HMR.out.2)
              clear HD4 HDB HCA HCB HSM HZ4
              have d0 : (kd == 2) = decide (kd = 2) := by by_cases h : kd = 2 <;> simp [h]
              by_cases h0 : kd < 0
              · have d1 : decide (kd < 0) = true := decide_eq_true h0
                go_wp2_with fail
                go_roundw
                case rel => exact ⟨j + 1, Ka, Kb, Ua, U1, by omega, by go_num, by rw [HM2.out]; exact HR⟩
                case measure => simp [intOf]; omega
              · have d1 : decide (kd < 0) = false := decide_eq_false h0
                by_cases h2 : kd = 2
                · subst h2
                  go_wp2_with fail
                  go_roundw
                  case rel => exact ⟨j + 1, Ka, Kb, Ua, U1, by omega, by go_num, by rw [HM2.out]; exact HR⟩
                  case measure => simp [intOf]; omega
                · have d2 : decide (3 < kd) = true := decide_eq_true (by omega)
                  have d3 : decide (kd = 2) = false := decide_eq_false h2
                  have d4 : (kd == 2) = false := by simpa using h2
                  clear d0
                  go_wp2_with fail
                  go_roundw
                  case rel => exact ⟨j + 1, Ka, Kb, Ua, U1, by omega, by go_num, by rw [HM2.out]; exact HR⟩
                  case measure => simp [intOf]; omega
          · obtain rfl : j = m := by omega
            clear hlt hj
            have HLA := Lib.hid HZZ.out.eq
            go_wp2_with fail
            refine (yalive _).mono ?_
            rintro e w5 ⟨rfl, hb5⟩
            have HZ5 := Lib.hid (HZZ.out.on hb5)
            have HC1 := Lib.hid (icounts HZ5.out.a.1 0)
            clear hb5 HZZ
            go_wp2_with fail
            refine HC1.out.mono ?_
            rintro e w6 ⟨rfl, hb6⟩
            have HZ6 := Lib.hid (HZ5.out.on hb6)
            have HC2 := Lib.hid (icounts HZ6.out.b.1 0)
            have e1 : Kb.cnt 0 = Ka.cnt 0 := by
              unfold Cn.cnt
              rw [if_pos (Or.inl rfl), if_pos (Or.inl rfl)]
              show cntV Kb.A = cntV Ka.A
              rw [HLA.out]
            rw [e1] at HC2
            have e2 : Ka.cnt 0 = .agg #[.int .i64 Ka.A.sent, .int .i64 Ka.A.got, .int .i64 (Ka.A.c.held : Int), .int .i64 Ka.A.c.lost] := by
              unfold Cn.cnt
              rw [if_pos (Or.inl rfl)]
              rfl
            rw [e2] at HC2 ⊢
            clear hb6 HZ5 HC1 e1 e2
            go_wp2_with fail
            refine HC2.out.mono ?_
            rintro e w7 ⟨rfl, hb7⟩
            have HB7 := Lib.hid (HZ6.out.on hb7).a.2.2
            clear hb7 HC2 HZ6 HLA
            go_wp2_with fail
            go_ret
            exact ⟨by simp, HB7.out⟩
end connApart
end Go.Proofs.YtdighjgcnaajgaaGreat

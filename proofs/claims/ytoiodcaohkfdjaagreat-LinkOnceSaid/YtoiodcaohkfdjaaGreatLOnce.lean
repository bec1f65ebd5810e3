/-
  The walk of chicanelaw12.LinkOnce: it returns true, whatever calls. Conditions: as each states.
-/
import Derived.Test.YtoiodcaohkfdjaaGreatMP49
namespace Go.Proofs.YtoiodcaohkfdjaaGreat
open Go.RowKit
namespace linkOnce
set_option maxRecDepth 100000 in
set_option maxHeartbeats 8000000 in
theorem no_new (pl : Option Addr) (nl dl : Nat) (l : List Tox) (up : Bool) (seed room : Int) (p : Option Addr) (m d : Nat) (w : World) (hl : l.length = nl) (hnd : nl ≤ dl) (hzl : ∀ t ∈ l, t.s.size ≤ 140737488351232) (hil : ToxIn w pl nl l) (hE : newLE l room ≠ 0) :
    Calls Tryz.prog 5 #[.agg #[.slice pl nl dl, .bool up, .int .u64 seed, .int .i64 room], .slice p m d] w fun e w' => e = .returned (.bool true) ∧ Below w.heap.size w w' := by
  have hal : Below w.heap.size w (w.alloc (.cells #[.slice pl nl dl, .bool up, .int .u64 seed, .int .i64 room] 25)) := (Below.refl _ _).alloc (Nat.le_refl _) _
  have HN := Lib.hid (lnew_no pl nl dl l up seed room 0 (w.alloc (.cells #[.slice pl nl dl, .bool up, .int .u64 seed, .int .i64 room] 25)) hl hnd hzl (toxs_on hil hal) hE)
  have HA := Lib.hid hal
  have d1 : (newLE l room != 0) = true := by simpa using hE
  have d2 : decide (newLE l room = 0) = false := by simpa using hE
  generalize newLE l room = E at *
  clear hE hal hl hzl hil
  go_enter Tryz.func5, Tryz.ntmps5
  go_wp2_with fail
  refine HN.out.mono ?_
  rintro e w2 ⟨rfl, hb⟩
  have HB2 := Lib.hid (HA.out.trans (hb.mono HA.out.size))
  clear hb HN HA
  go_wp2_with fail
  refine (lalive _).mono ?_
  rintro e w3 ⟨rfl, hb⟩
  have HB3 := Lib.hid (HB2.out.trans (hb.mono HB2.out.size))
  clear hb
  go_wp2_with fail
  go_ret
  exact ⟨rfl, HB3.out⟩
set_option maxRecDepth 100000 in
set_option maxHeartbeats 16000000 in
theorem walk (pl : Option Addr) (nl dl : Nat) (l : List Tox) (up : Bool) (seed room : Int) (p : Option Addr) (m d : Nat) (os : List LOp) (w : World) (hl : l.length = nl) (hnd : nl ≤ dl) (hzl : ∀ t ∈ l, t.s.size ≤ 140737488351232) (hil : ToxIn w pl nl l) (hx : os.length = m) (hmd : m ≤ d) (hd : d ≤ 9223372036854775807) (hz : ∀ o ∈ os, o.s.size ≤ 140737488351232 ∧ o.t.s.size ≤ 140737488351232) (hj : LopsIn w p m os) :
    Calls Tryz.prog 5 #[.agg #[.slice pl nl dl, .bool up, .int .u64 seed, .int .i64 room], .slice p m d] w fun e w' => e = .returned (.bool true) ∧ Below w.heap.size w w' := by
  by_cases hE : newLE l room ≠ 0
  · exact no_new pl nl dl l up seed room p m d w hl hnd hzl hil hE
  have hE0 : newLE l room = 0 := by omega
  have HX := Lib.hid hx
  have HJ := Lib.hid hj
  have HZ := Lib.hid hz
  have hal : Below w.heap.size w (w.alloc (.cells #[.slice pl nl dl, .bool up, .int .u64 seed, .int .i64 room] 25)) := (Below.refl _ _).alloc (Nat.le_refl _) _
  have HN := Lib.hid (lnew pl nl dl l up seed room 0 (w.alloc (.cells #[.slice pl nl dl, .bool up, .int .u64 seed, .int .i64 room] 25)) hl hnd hzl (toxs_on hil hal) hE0)
  have HAL := Lib.hid hal
  have hnew := heap_alloc_new w (.cells #[.slice pl nl dl, .bool up, .int .u64 seed, .int .i64 room] 25)
  have HNW := Lib.hid hnew
  have HIL := Lib.hid (And.intro hl hil)
  clear hE hE0 hal hl hzl hil hx hz hj
  go_enter Tryz.func5, Tryz.ntmps5
  go_wp2_with fail
  refine HN.out.mono ?_
  rintro e w2 ⟨g, V, rfl, h1, hmk⟩
  have hs0 := cell_of_row w2 w.heap.size 0 _ _ _ ((h1.2.2.block _ (gb.blk_lt hnew)).trans hnew)
  have hs1 := cell_of_row w2 w.heap.size 1 _ _ _ ((h1.2.2.block _ (gb.blk_lt hnew)).trans hnew)
  have hs2 := cell_of_row w2 w.heap.size 2 _ _ _ ((h1.2.2.block _ (gb.blk_lt hnew)).trans hnew)
  have hs3 := cell_of_row w2 w.heap.size 3 _ _ _ ((h1.2.2.block _ (gb.blk_lt hnew)).trans hnew)
  have HNW := Lib.hid ((h1.2.2.block _ (gb.blk_lt hnew)).trans hnew)
  have HA2 := Lib.hid (h1.base HAL.out)
  have HMK := Lib.hid hmk
  clear h1 hmk HN HAL hnew
  generalize (Lk.newK up seed room 0).addL 0 l = k0 at *
  go_wp2_with fail
  refine (lfew_any pl nl dl up seed room p m d os _ HX.out hmd hd HZ.out (lops_on HJ.out HA2.out.2.2)).mono ?_
  rintro e w3 ⟨b, rfl, hf, hb⟩
  have HA3 := Lib.hid (HA2.out.on hb)
  have HNW := Lib.hid ((hb.block _ (gb.blk_lt HNW.out)).trans HNW.out)
  have HF := Lib.hid hf
  clear hb hf HA2 hs0 hs1 hs2 hs3 hmd hd
  cases b with
  | false =>
    clear HF
    go_wp2_with fail
    refine (lalive _).mono ?_
    rintro e w5 ⟨rfl, hb5⟩
    have HB5 := Lib.hid (HA3.out.on hb5).2.2
    clear hb5
    go_wp2_with fail
    go_ret
    exact ⟨rfl, HB5.out⟩
  | true =>
    obtain ⟨hnl, hm, htt⟩ := HF.out rfl
    have HT := Lib.hid htt
    clear HF htt
    go_wp2_with fail
    go_loopw [7, 9, 10, 11, 39] (fun ve _ _ _ i wr => ∃ (k : Nat) (K : Lk) (U1 : Own) (x : Int), k ≤ m ∧ i = .int .i64 k ∧ ve = .int .i64 x ∧ Hid (LHd w wr U1 g K (128 + ltot (os.take k))) ∧ Hid K.Over ∧ Hid ((K.fin ≠ 0 → x = 1) ∧ (K.fin = 0 → x = 0))) (fun _ _ _ _ i _ => m - (intOf i).toNat)
    case atStart => exact ⟨0, k0, V, 0, by omega, rfl, rfl, HA3, Lib.hid HMK.out.over.1, Lib.hid ⟨fun h => absurd HMK.out.over.2 h, fun _ => rfl⟩⟩
    case round =>
      clear HA3
      obtain ⟨k, K, U1, x, hk, rfl, rfl, HA, HOV, HE⟩ := hrel
      by_cases hlt : k < m
      · obtain ⟨b, o, rfl, hcell⟩ := lops_on HJ.out HA.out.2.2 (by omega)
        obtain ⟨c0, c1, c2, c3, c4, c5, c6, c7, c8, c9⟩ := hcell k hlt
        have hzk := HZ.out _ (lat_of os k (by rw [HX.out]; exact hlt))
        have HTK := Lib.hid (ltot_step os k m HX.out hlt _ rfl)
        have HTL := Lib.hid (Nat.le_trans (ltot_take_le os (k + 1)) HT.out)
        generalize os.getD k noLop = op at *
        obtain ⟨K2, hK2⟩ : ∃ K2, K.doK op = K2 := ⟨_, rfl⟩
        obtain ⟨a1, ha1⟩ : ∃ a1, K.ansK op = a1 := ⟨_, rfl⟩
        have hov := Lk.over_do HA.out.ok HA.out.bal' HOV.out op
        rw [hK2, ha1] at hov
        have HDN := Lib.hid (fun (W : World) (hb : Below wr.heap.size wr W) => ldone (HA.out.on hb).1)
        have HDN4 := Lib.hid (HDN.out (wr.alloc (.cells #[.int .i64 op.kind, .int .i64 op.now, .int .i64 op.n, .string op.s, .string op.t.s, .int .i64 op.t.k, .bool op.t.up, .int .i64 op.t.o, .int .i64 op.t.a, .int .i64 op.t.b] 45)) ((Below.refl _ _).alloc (Nat.le_refl _) _))
        obtain ⟨F, hF⟩ : ∃ F, K.fin = F := ⟨_, rfl⟩
        rw [hF] at hov HDN4 HE
        obtain ⟨B, hB⟩ : ∃ B, decide (F ≠ 0) = B := ⟨_, rfl⟩
        rw [hB] at HDN4
        have HBB := Lib.hid hB
        clear hF HDN HOV hB
        have HDs := Lib.hid (fun (W : World) (hb : Below wr.heap.size wr W) => (show Calls Tryz.prog 15 #[ptr g, lopV op] W (LDoe w W U1 g K2 a1 (128 + ltot (os.take (k + 1)))) from by
          rw [← hK2, ← ha1]
          exact ldoes (HA.out.on hb) op (by unfold maxLen; have := hzk.2; omega) (by have := HTK.out; omega) (by have := HTL.out; omega)))
        obtain ⟨kd, T, N, b0, tx⟩ := op
        obtain ⟨us, uk, uu, uo, ua, ub⟩ := tx
        unfold lopV at HDs
        simp only at c0 c1 c2 c3 c4 c5 c6 c7 c8 c9 HTK HDs hov HDN4
        rw [← Nat.add_assoc] at c1 c2 c3 c4 c5 c6 c7 c8 c9
        have hal : Below wr.heap.size wr (wr.alloc (.cells #[.int .i64 kd, .int .i64 T, .int .i64 N, .string b0, .string us, .int .i64 uk, .bool uu, .int .i64 uo, .int .i64 ua, .int .i64 ub] 45)) := (Below.refl _ _).alloc (Nat.le_refl _) _
        have HA4 := Lib.hid (HA.out.on hal)
        have HO4 := Lib.hid (heap_alloc_new wr (.cells #[.int .i64 kd, .int .i64 T, .int .i64 N, .string b0, .string us, .int .i64 uk, .bool uu, .int .i64 uo, .int .i64 ua, .int .i64 ub] 45))
        have HU4 := Lib.hid (HA.out.new (Nat.le_refl _))
        have HD4 := Lib.hid (HDs.out _ hal)
        clear hal HA HDs hcell hzk hK2 ha1
        have HV1 := Lib.hid hov
        clear hov
        go_upto_region 8 with fail
        generalize wr.alloc (.cells #[.int .i64 kd, .int .i64 T, .int .i64 N, .string b0, .string us, .int .i64 uk, .bool uu, .int .i64 uo, .int .i64 ua, .int .i64 ub] 45) = w4 at *
        generalize wr.heap.size = go at *
        clear c0 c1 c2 c3 c4 c5 c6 c7 c8 c9
        have o0 := cell_of_row w4 go 0 _ _ _ HO4.out
        have o1 := cell_of_row w4 go 1 _ _ _ HO4.out
        have o2 := cell_of_row w4 go 2 _ _ _ HO4.out
        have o3 := cell_of_row w4 go 3 _ _ _ HO4.out
        have o4 := cell_of_row w4 go 4 _ _ _ HO4.out
        have o5 := cell_of_row w4 go 5 _ _ _ HO4.out
        have o6 := cell_of_row w4 go 6 _ _ _ HO4.out
        have o7 := cell_of_row w4 go 7 _ _ _ HO4.out
        have o8 := cell_of_row w4 go 8 _ _ _ HO4.out
        have o9 := cell_of_row w4 go 9 _ _ _ HO4.out
        go_wp2_with fail
        refine HDN4.out.mono ?_
        rintro e w5 ⟨rfl, rfl⟩
        clear HDN4
        go_wp2_with fail
        refine HD4.out.mono ?_
        rintro e w6 ⟨rfl, U6, h6, hr6⟩
        obtain ⟨n1, t1, e1⟩ := a1
        have hk6 : w6.heap[go]? = _ ∧ ¬ U6 go := ⟨(hr6 go (gb.blk_lt HO4.out) HU4.out).1.trans HO4.out, (hr6 go (gb.blk_lt HO4.out) HU4.out).2⟩
        have hal : Below w6.heap.size w6 (w6.alloc (.cells #[.int .i64 n1, .string t1, .int .i64 e1] 47)) := (Below.refl _ _).alloc (Nat.le_refl _) _
        have HA7 := Lib.hid (h6.on hal)
        have HO7 := Lib.hid ((hal.block _ (gb.blk_lt hk6.1)).trans hk6.1)
        have HG7 := Lib.hid (heap_alloc_new w6 (.cells #[.int .i64 n1, .string t1, .int .i64 e1] 47))
        clear hal h6 hr6 hk6 HD4 HA4 HO4 HU4 o0 o1 o2 o3 o4 o5 o6 o7 o8 o9
        go_upto_region 10 with fail
        generalize w6.alloc (.cells #[.int .i64 n1, .string t1, .int .i64 e1] 47) = w7 at *
        generalize w6.heap.size = gx at *
        have p0 := cell_of_row w7 go 0 _ _ _ HO7.out
        have p3 := cell_of_row w7 go 3 _ _ _ HO7.out
        have y0 := cell_of_row w7 gx 0 _ _ _ HG7.out
        have y1 := cell_of_row w7 gx 1 _ _ _ HG7.out
        have HDE := Lib.hid (ldone HA7.out.1)
        have HO2 := Lib.hid HV1.out.1
        obtain ⟨G, hG⟩ : ∃ G, K2.fin = G := ⟨_, rfl⟩
        have HGG := Lib.hid hG
        have HVV := Lib.hid HV1.out.2
        rw [hG] at HDE HVV
        clear hG HV1
        by_cases hf : F = 0
        · have h2 := HVV.out.2 hf
          obtain rfl : B = false := by rw [← HBB.out]; exact decide_eq_false (fun h => h hf)
          obtain rfl : x = 0 := HE.out.2 hf
          have HH2 := Lib.hid h2
          clear h2 hf HVV HE HBB
          by_cases hk3 : kd = 3
          · subst hk3
            by_cases hn : n1 = 0
            · subst hn
              have hG0 : G = 0 := by have := HH2.out; omega
              rw [show decide (G ≠ 0) = false from decide_eq_false (fun h => h hG0)] at HDE
              have HR := Lib.hid (show K2.fin = 0 from HGG.out.trans hG0)
              clear HH2 hG0 HGG
              go_wp2_with fail
              refine HDE.out.mono ?_
              rintro e w8 ⟨rfl, rfl⟩
              clear HDE
              go_wp2_with fail
              go_roundw
              case rel => exact ⟨k + 1, K2, U6, _, by omega, by go_num, rfl, HA7, HO2, Lib.hid ⟨fun h => absurd HR.out h, fun _ => rfl⟩⟩
              case measure => simp [intOf]; omega
            · have hG0 : G ≠ 0 := by have := HH2.out; simp only [true_and] at this; exact this.2 hn
              have dn : (n1 != 0) = true := by simpa using hn
              have dn2 : decide (n1 = 0) = false := by simpa using hn
              rw [show decide (G ≠ 0) = true from decide_eq_true hG0] at HDE
              have HR := Lib.hid (show K2.fin ≠ 0 from by rw [HGG.out]; exact hG0)
              clear HH2 hG0 HGG hn
              go_wp2_with fail
              refine HDE.out.mono ?_
              rintro e w8 ⟨rfl, rfl⟩
              clear HDE
              go_wp2_with fail
              go_roundw
              case rel => exact ⟨k + 1, K2, U6, _, by omega, by go_num, rfl, HA7, HO2, Lib.hid ⟨fun _ => rfl, fun h => absurd h HR.out⟩⟩
              case measure => simp [intOf]; omega
          · have dk : (kd == 3) = false := by simpa using hk3
            have hG0 : G = 0 := by
              have := HH2.out
              exact Decidable.not_not.1 fun h => hk3 (this.1 h).1
            rw [show decide (G ≠ 0) = false from decide_eq_false (fun h => h hG0)] at HDE
            have HR := Lib.hid (show K2.fin = 0 from HGG.out.trans hG0)
            clear HH2 hG0 HGG hk3
            go_wp2_with fail
            refine HDE.out.mono ?_
            rintro e w8 ⟨rfl, rfl⟩
            clear HDE
            go_wp2_with fail
            go_roundw
            case rel => exact ⟨k + 1, K2, U6, _, by omega, by go_num, rfl, HA7, HO2, Lib.hid ⟨fun h => absurd HR.out h, fun _ => rfl⟩⟩
            case measure => simp [intOf]; omega
        · obtain ⟨ht1, hn1, hG0⟩ := HVV.out.1 hf
          obtain rfl : B = true := by rw [← HBB.out]; exact decide_eq_true hf
          obtain rfl : x = 1 := HE.out.1 hf
          rw [show decide (G ≠ 0) = true from decide_eq_true hG0] at HDE
          have HR := Lib.hid (show K2.fin ≠ 0 from by rw [HGG.out]; exact hG0)
          obtain rfl : t1 = ⟨#[]⟩ := ht1
          clear HVV hG0 HGG hf HE HBB
          by_cases hk0 : kd = 0
          · obtain rfl : n1 = 0 := hn1 (Or.inl hk0)
            subst hk0
            clear hn1
            go_wp2_with fail
            refine HDE.out.mono ?_
            rintro e w8 ⟨rfl, rfl⟩
            clear HDE
            go_wp2_with fail
            go_roundw
            case rel => exact ⟨k + 1, K2, U6, _, by omega, by go_num, rfl, HA7, HO2, Lib.hid ⟨fun _ => rfl, fun h => absurd h HR.out⟩⟩
            case measure => simp [intOf]; omega
          · by_cases hk3 : kd = 3
            · obtain rfl : n1 = 0 := hn1 (Or.inr hk3)
              subst hk3
              clear hn1 hk0
              go_wp2_with fail
              refine HDE.out.mono ?_
              rintro e w8 ⟨rfl, rfl⟩
              clear HDE
              go_wp2_with fail
              go_roundw
              case rel => exact ⟨k + 1, K2, U6, _, by omega, by go_num, rfl, HA7, HO2, Lib.hid ⟨fun _ => rfl, fun h => absurd h HR.out⟩⟩
              case measure => simp [intOf]; omega
            · have dk0 : (kd == 0) = false := by simpa using hk0
              have dk3 : (kd == 3) = false := by simpa using hk3
              clear hn1 hk0 hk3
              go_wp2_with fail
              refine HDE.out.mono ?_
              rintro e w8 ⟨rfl, rfl⟩
              clear HDE
              go_wp2_with fail
              go_roundw
              case rel => exact ⟨k + 1, K2, U6, _, by omega, by go_num, rfl, HA7, HO2, Lib.hid ⟨fun _ => rfl, fun h => absurd h HR.out⟩⟩
              case measure => simp [intOf]; omega
      · obtain rfl : k = m := by omega
        clear hlt hk
        go_wp2_with fail
        refine (lalive _).mono ?_
        rintro e w5 ⟨rfl, hb5⟩
        have HB5 := Lib.hid (HA.out.on hb5).2.2
        clear hb5 HA
        go_wp2_with fail
        go_ret
        exact ⟨rfl, HB5.out⟩
end linkOnce
end Go.Proofs.YtoiodcaohkfdjaaGreat

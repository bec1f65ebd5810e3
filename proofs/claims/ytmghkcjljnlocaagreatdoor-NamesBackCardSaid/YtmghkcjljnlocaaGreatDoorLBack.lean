/-
  'chicanelaw14.NamesBack' returns true. Conditions: the names' lengths, the table of digits.
-/
import Derived.Test.YtmghkcjljnlocaaGreatDoorQA
namespace Go.Proofs.YtmghkcjljnlocaaGreatDoor
open Go.RowKit
theorem right_lean {l : List Prx} (h : Nm.Right l) : Lean14 l ∧ l.length ≤ 8 := by
  refine ⟨fun x hx => ?_, h.few⟩
  obtain ⟨h1, _, _, h4, h5, _⟩ := (Nm.chkP_iff x).1 (h.each x hx)
  have := name_small h1
  exact ⟨by unfold maxLen; omega, by omega, fun t ht => by have := tox_small (h5 t ht); unfold maxLen; omega⟩
section
variable {l : List Prx} {s : ByteArray} (hr : Nm.Right l)
include hr
theorem bk_none (h : ¬ Nm.fP l s < l.length) {o : NOp} (hs : o.s = s) (hk : o.kind = 2 ∨ o.kind = 3) : Nm.doP l o = (l, 142) := by
  rw [doP_yes hr]
  unfold Nm.doR
  rw [if_neg (by omega), if_neg (by omega)]
  dsimp only
  rw [hs, if_pos h]
theorem bk_some (h : Nm.fP l s < l.length) {o : NOp} (hs : o.s = s) (hk : o.kind = 0) : Nm.doP l o = (l, 141) := by
  rw [doP_yes hr]
  unfold Nm.doR
  rw [if_pos hk]
  unfold Nm.addL
  have hn : gx.nameB o.s = true := by
    have hm : l[Nm.fP l s] ∈ l := List.getElem_mem h
    have h1 := ((Nm.chkP_iff _).1 (hr.each _ hm)).1
    have e : l[Nm.fP l s].s = s := Nm.fnd_key (key := Prx.s) h
    rw [e] at h1
    rw [hs]
    exact h1
  rw [if_neg (by rw [hn]; decide), hs, if_pos h]
end
set_option maxRecDepth 100000 in
set_option maxHeartbeats 16000000 in
theorem namesBack.walk (p : Option Addr) (n d : Nat) (l : List Prx) (t : Tox) (s : ByteArray) (w : World) (hl : l.length = n) (hnx : n ≤ maxLen) (hm : ∀ x ∈ l, x.ts.length ≤ maxLen ∧ x.s.size ≤ maxLen) (hz : ∀ x ∈ l, ∀ u ∈ x.ts, u.s.size ≤ maxLen) (hi : PrxIn w p n l) (ht : t.s.size ≤ maxLen) (hs : s.size ≤ maxLen) (htab : gx.Tab w) :
    Calls Tryz.prog 8 #[.slice p n d, .agg #[.string t.s, .int .i64 t.k, .bool t.up, .int .i64 t.o, .int .i64 t.a, .int .i64 t.b], .string s] w fun e w' => e = .returned (.bool true) ∧ Below w.heap.size w w' := by
  obtain ⟨w1, hw1⟩ : ∃ w1, w.alloc (.cells #[.string t.s, .int .i64 t.k, .bool t.up, .int .i64 t.o, .int .i64 t.a, .int .i64 t.b] TT) = w1 := ⟨_, rfl⟩
  have hb1 : Below w.heap.size w w1 := by rw [← hw1]; exact (Below.refl _ _).alloc (Nat.le_refl _) _
  have htb : TBox w1 w.heap.size t := by unfold TBox; rw [← hw1]; exact heap_alloc_new _ _
  have HB1 := Lib.hid hb1
  have HTB := Lib.hid (fun W (hW : Below w1.heap.size w1 W) => (htb.on hW).cells)
  have HI := Lib.hid (prxs_on hi hb1)
  have HAL := Lib.hid (fun W (hW : Below w1.heap.size w1 W) => alive_any W (gx.tab_on (gx.tab_on htab hb1) hW))
  have HF := Lib.hid (few_any p n d l w1 hl hnx hm (prxs_on hi hb1))
  have HW := Lib.hid hw1
  have HZ := Lib.hid hz
  have HL := Lib.hid hl
  have hs63 : s.size ≤ 9223372036854775807 := by unfold maxLen at hs; omega
  have ht63 : t.s.size ≤ 9223372036854775807 := by unfold maxLen at ht; omega
  have HSS := Lib.hid (⟨hs, ht⟩ : s.size ≤ maxLen ∧ t.s.size ≤ maxLen)
  clear hb1 htb hi htab hw1 hm hz hnx hl hs ht
  go_enter Tryz.func8, Tryz.ntmps8
  go_wp2_with fail
  rw [HW.out]
  refine HF.out.mono ?_
  rintro e w2 ⟨rfl, hb⟩
  have HD2 := Lib.hid hb
  clear hb HF
  cases hf : fewB l with
  | false =>
    clear hf
    go_wp2_with fail
    refine (HAL.out _ HD2.out).mono ?_
    rintro e wz ⟨rfl, hb⟩
    have HZZ := Lib.hid (seqB HB1.out (seqB HD2.out hb))
    clear hb
    go_wp2_with fail
    go_ret
    exact ⟨rfl, HZZ.out⟩
  | true =>
    obtain ⟨hlean, h12⟩ := few_lean hf HZ.out
    rw [HL.out] at h12
    have HR := Lib.hid (rright_any p n d l w2 HL.out (by omega) hlean (prxs_on HI.out HD2.out))
    have HLN := Lib.hid hlean
    clear hf hlean
    go_wp2_with fail
    refine HR.out.mono ?_
    rintro e w3 ⟨rfl, hb⟩
    have HD3 := Lib.hid (seqB HD2.out hb)
    clear hb HR HD2
    cases hrb : rightB l with
    | false =>
      clear hrb
      go_wp2_with fail
      refine (HAL.out _ HD3.out).mono ?_
      rintro e wz ⟨rfl, hb⟩
      have HZZ := Lib.hid (seqB HB1.out (seqB HD3.out hb))
      clear hb
      go_wp2_with fail
      go_ret
      exact ⟨rfl, HZZ.out⟩
    | true =>
      have hr := right_true.1 hrb
      have HRT := Lib.hid hr
      clear hrb hr
      obtain ⟨x0, x1, x2, x3, x4, x5⟩ := HTB.out _ HD3.out
      by_cases hs1 : s.size ≤ 100
      · have k1 : decide ((100 : Int) < (s.size : Int)) = false := decide_eq_false (by omega)
        by_cases ht1 : t.s.size ≤ 100
        · have k2 : decide ((100 : Int) < (t.s.size : Int)) = false := decide_eq_false (by omega)
          have HT := Lib.hid (addToxic_any p n d l ⟨3, 0, s, ⟨#[]⟩, false, t⟩ w3 rfl HSS.out.2 HL.out (by omega) HLN.out (prxs_on HI.out HD3.out))
          by_cases hfd : Nm.fP l s < n
          · by_cases hEA : (Nm.doP l ⟨3, 0, s, ⟨#[]⟩, false, t⟩).2 = 0
            · have hfd2 : Nm.fP l s < l.length := by rw [HL.out]; exact hfd
              obtain ⟨hbk1, hbk2⟩ := Nm.back_tox (l := l) (o := ⟨3, 0, s, ⟨#[]⟩, false, t⟩) (o' := ⟨4, 0, s, t.s, false, noTox⟩) rfl (by rw [← doP_yes HRT.out]; exact hEA) rfl rfl rfl
              rw [← doP_yes HRT.out] at hbk1 hbk2
              have HRTA := Lib.hid (Nm.doP_right l ⟨3, 0, s, ⟨#[]⟩, false, t⟩)
              rw [← doP_yes HRTA.out] at hbk1
              rw [hEA] at HT
              have HNE := Lib.hid hbk2
              have HBK := Lib.hid hbk1
              clear hbk1 hbk2 hEA
              generalize (Nm.doP l ⟨3, 0, s, ⟨#[]⟩, false, t⟩).1 = LA at *
              go_wp2_with fail
              refine HT.out.mono ?_
              rintro e w4 ⟨qA, nA, cA, rfl, hpA, hb⟩
              have HD4 := Lib.hid (seqB HD3.out hb)
              have HPA := Lib.hid hpA
              clear hb hpA HT HD3
              clear x0 x1 x2 x3 x4 x5
              obtain ⟨x0, x1, x2, x3, x4, x5⟩ := HTB.out _ HD4.out
              have HU := Lib.hid (show Calls Tryz.prog 23 #[.slice qA nA cA, .string s, .string t.s] w4 (OutDo l 0 w4) from by
                have h := dropToxic_any qA nA cA LA ⟨4, 0, s, t.s, false, noTox⟩ w4 rfl HPA.out.len (by have := HPA.out.len; have := (right_lean HRTA.out).2; omega) (right_lean HRTA.out).1 HPA.out.prx
                rw [HBK.out] at h
                exact h)
              go_wp2_with fail
              refine HU.out.mono ?_
              rintro e w5 ⟨qB, nB, cB, rfl, hpB, hb⟩
              have HD5 := Lib.hid (seqB HD4.out hb)
              have HPB := Lib.hid hpB
              have HPAB := Lib.hid (HPA.out.on hb)
              clear hb hpB HU HD4 HPA
              have HPA := Lib.hid HPAB.out
              clear HPAB
              have HRTB := HRT
              clear x0 x1 x2 x3 x4 x5 HBK
              have HS1 := Lib.hid (show Calls Tryz.prog 14 #[.slice qB nB cB, .slice p n d] w5 fun e w' => e = .returned (.bool true) ∧ Below w5.heap.size w5 w' from by
                have h := rsame_any qB p nB n cB d l l w5 HPB.out.len HL.out (by have := HPB.out.len; have := (right_lean HRTB.out).2; omega) (by omega) (lean_of (right_lean HRTB.out).1) (lean_of HLN.out) HPB.out.prx (prxs_on HI.out HD5.out)
                rwa [decide_eq_true rfl] at h)
              go_wp2_with fail
              refine HS1.out.mono ?_
              rintro e w6 ⟨rfl, hb⟩
              have HD6 := Lib.hid (seqB HD5.out hb)
              have HPAz := Lib.hid (HPA.out.on hb)
              clear hb HS1 HD5 HPA
              have HPA := Lib.hid HPAz.out
              clear HPAz
              have HS2 := Lib.hid (show Calls Tryz.prog 14 #[.slice qA nA cA, .slice p n d] w6 fun e w' => e = .returned (.bool false) ∧ Below w6.heap.size w6 w' from by
                have h := rsame_any qA p nA n cA d LA l w6 HPA.out.len HL.out (by have := HPA.out.len; have := (right_lean HRTA.out).2; omega) (by omega) (lean_of (right_lean HRTA.out).1) (lean_of HLN.out) HPA.out.prx (prxs_on HI.out HD6.out)
                rwa [decide_eq_false HNE.out] at h)
              clear HPB HRTB HNE
              go_wp2_with fail
              refine HS2.out.mono ?_
              rintro e w7 ⟨rfl, hb⟩
              have HD7 := Lib.hid (seqB HD6.out hb)
              clear hb HS2 HD6
              clear HPA HRTA
              have HC := Lib.hid (show Calls Tryz.prog 24 #[.slice p n d, .string s, .int .i64 2] w7 (OutDo l 141 w7) from by
                have h := add_any p n d l ⟨0, 2, s, ⟨#[]⟩, false, noTox⟩ w7 rfl HSS.out.1 HL.out (by omega) HLN.out (prxs_on HI.out HD7.out)
                rw [bk_some HRT.out hfd2 rfl rfl] at h
                exact h)
              go_wp2_with fail
              refine HC.out.mono ?_
              rintro e w8 ⟨qC, nC, cC, rfl, hpC, hb⟩
              have HD8 := Lib.hid (seqB HD7.out hb)
              have HPC := Lib.hid hpC
              clear hb hpC HC HD7
              clear HPC
              have HFI := Lib.hid (find_yes p n d l s w8 HL.out (by omega) HLN.out (prxs_on HI.out HD8.out) hfd)
              unfold OutF at HFI
              obtain ⟨x, hx⟩ : ∃ x, l.getD (Nm.fP l s) noPrx = x := ⟨_, rfl⟩
              rw [hx] at HFI
              have hbs := Nm.back_switch (l := l) (o := ⟨2, 0, s, ⟨#[]⟩, !x.on, noTox⟩) (o' := ⟨2, 0, s, ⟨#[]⟩, x.on, noTox⟩) rfl rfl hfd2 rfl (by show x.on = _; rw [hx])
              rw [← doP_yes HRT.out] at hbs
              have HRTX := Lib.hid (Nm.doP_right l ⟨2, 0, s, ⟨#[]⟩, !x.on, noTox⟩)
              rw [← doP_yes HRTX.out] at hbs
              have HBS := Lib.hid hbs
              clear hbs hx hfd2
              go_wp2_with fail
              refine HFI.out.mono ?_
              rintro e w9 ⟨qF, dF, rfl, _, hb⟩
              have hal : Below w9.heap.size w9 (w9.alloc (.cells #[.string x.s, .bool x.on, .int .i64 x.most, .slice qF x.ts.length dF] TP)) := (Below.refl _ _).alloc (Nat.le_refl _) _
              have hnew := heap_alloc_new w9 (.cells #[.string x.s, .bool x.on, .int .i64 x.most, .slice qF x.ts.length dF] TP)
              obtain ⟨w10, hwx⟩ : ∃ wx, w9.alloc (.cells #[.string x.s, .bool x.on, .int .i64 x.most, .slice qF x.ts.length dF] TP) = wx := ⟨_, rfl⟩
              rw [hwx] at hal hnew
              have HD10 := Lib.hid (seqB (seqB HD8.out hb) hal)
              have HON := Lib.hid (fun W (hW : Below w10.heap.size w10 W) => cell_of_row _ _ 1 _ _ _ ((hW.block _ (gc.blk_lt hnew)).trans hnew))
              have HWX := Lib.hid hwx
              clear hb hal hnew hwx HFI HD8
              have HSW := Lib.hid (show Calls Tryz.prog 27 #[.slice p n d, .string s, .bool (!x.on)] w10 (OutDo (Nm.doP l ⟨2, 0, s, ⟨#[]⟩, !x.on, noTox⟩).1 0 w10) from by
                have h := switch_any p n d l ⟨2, 0, s, ⟨#[]⟩, !x.on, noTox⟩ w10 rfl HL.out (by omega) HLN.out (prxs_on HI.out HD10.out)
                rw [HBS.out.1] at h
                exact h)
              have HBS2 := Lib.hid HBS.out.2
              generalize (Nm.doP l ⟨2, 0, s, ⟨#[]⟩, !x.on, noTox⟩).1 = LX at *
              clear HBS
              go_wp2_with fail
              rw [HWX.out]
              refine HSW.out.mono ?_
              rintro e w11 ⟨qX, nX, cX, rfl, hpX, hb⟩
              have HD11 := Lib.hid (seqB HD10.out hb)
              have HPX := Lib.hid hpX
              have xon := HON.out _ hb
              have HSV := Lib.hid (show Calls Tryz.prog 27 #[.slice qX nX cX, .string s, .bool x.on] w11 (OutDo l 0 w11) from by
                have h := switch_any qX nX cX LX ⟨2, 0, s, ⟨#[]⟩, x.on, noTox⟩ w11 rfl HPX.out.len (by have := HPX.out.len; have := (right_lean HRTX.out).2; omega) (right_lean HRTX.out).1 HPX.out.prx
                rw [HBS2.out] at h
                exact h)
              clear hb hpX HSW HD10 HON HPX HBS2 HRTX
              go_wp2_with fail
              refine HSV.out.mono ?_
              rintro e w12 ⟨qY, nY, cY, rfl, hpY, hb⟩
              have HD12 := Lib.hid (seqB HD11.out hb)
              have HPY := Lib.hid hpY
              clear hb hpY HSV HD11
              clear xon
              have HAA := Lib.hid (HAL.out _ HD12.out)
              go_wp2_with fail
              refine HAA.out.mono ?_
              rintro e w13 ⟨rfl, hb⟩
              have HD13 := Lib.hid (seqB HD12.out hb)
              have HPYz := Lib.hid (HPY.out.on hb)
              clear hb HAA HD12 HPY
              have HPY := Lib.hid HPYz.out
              clear HPYz
              have HRTY := HRT
              have HS9 := Lib.hid (show Calls Tryz.prog 14 #[.slice qY nY cY, .slice p n d] w13 fun e w' => e = .returned (.bool true) ∧ Below w13.heap.size w13 w' from by
                have h := rsame_any qY p nY n cY d l l w13 HPY.out.len HL.out (by have := HPY.out.len; have := (right_lean HRTY.out).2; omega) (by omega) (lean_of (right_lean HRTY.out).1) (lean_of HLN.out) HPY.out.prx (prxs_on HI.out HD13.out)
                rwa [decide_eq_true rfl] at h)
              go_wp2_with fail
              refine HS9.out.mono ?_
              rintro e w14 ⟨rfl, hb⟩
              have HD14 := Lib.hid (seqB HD13.out hb)
              clear hb HS9 HD13
              clear HPY HRTY
              go_wp2_with fail
              go_ret
              exact ⟨rfl, seqB HB1.out HD14.out⟩
            · have hfd2 : Nm.fP l s < l.length := by rw [HL.out]; exact hfd
              generalize hea : (Nm.doP l ⟨3, 0, s, ⟨#[]⟩, false, t⟩).2 = EA at *
              have dE : (EA == 0) = false := by simpa using hEA
              have dE2 : decide (EA = 0) = false := decide_eq_false hEA
              have HRTA := Lib.hid (Nm.doP_right l ⟨3, 0, s, ⟨#[]⟩, false, t⟩)
              clear hEA hea
              generalize (Nm.doP l ⟨3, 0, s, ⟨#[]⟩, false, t⟩).1 = LA at *
              go_wp2_with fail
              refine HT.out.mono ?_
              rintro e w4 ⟨qA, nA, cA, rfl, hpA, hb⟩
              have HD4 := Lib.hid (seqB HD3.out hb)
              have HPA := Lib.hid hpA
              clear hb hpA HT HD3
              clear x0 x1 x2 x3 x4 x5
              clear HPA HRTA
              have HC := Lib.hid (show Calls Tryz.prog 24 #[.slice p n d, .string s, .int .i64 2] w4 (OutDo l 141 w4) from by
                have h := add_any p n d l ⟨0, 2, s, ⟨#[]⟩, false, noTox⟩ w4 rfl HSS.out.1 HL.out (by omega) HLN.out (prxs_on HI.out HD4.out)
                rw [bk_some HRT.out hfd2 rfl rfl] at h
                exact h)
              go_wp2_with fail
              refine HC.out.mono ?_
              rintro e w5 ⟨qC, nC, cC, rfl, hpC, hb⟩
              have HD5 := Lib.hid (seqB HD4.out hb)
              have HPC := Lib.hid hpC
              clear hb hpC HC HD4
              clear HPC
              have HFI := Lib.hid (find_yes p n d l s w5 HL.out (by omega) HLN.out (prxs_on HI.out HD5.out) hfd)
              unfold OutF at HFI
              obtain ⟨x, hx⟩ : ∃ x, l.getD (Nm.fP l s) noPrx = x := ⟨_, rfl⟩
              rw [hx] at HFI
              have hbs := Nm.back_switch (l := l) (o := ⟨2, 0, s, ⟨#[]⟩, !x.on, noTox⟩) (o' := ⟨2, 0, s, ⟨#[]⟩, x.on, noTox⟩) rfl rfl hfd2 rfl (by show x.on = _; rw [hx])
              rw [← doP_yes HRT.out] at hbs
              have HRTX := Lib.hid (Nm.doP_right l ⟨2, 0, s, ⟨#[]⟩, !x.on, noTox⟩)
              rw [← doP_yes HRTX.out] at hbs
              have HBS := Lib.hid hbs
              clear hbs hx hfd2
              go_wp2_with fail
              refine HFI.out.mono ?_
              rintro e w6 ⟨qF, dF, rfl, _, hb⟩
              have hal : Below w6.heap.size w6 (w6.alloc (.cells #[.string x.s, .bool x.on, .int .i64 x.most, .slice qF x.ts.length dF] TP)) := (Below.refl _ _).alloc (Nat.le_refl _) _
              have hnew := heap_alloc_new w6 (.cells #[.string x.s, .bool x.on, .int .i64 x.most, .slice qF x.ts.length dF] TP)
              obtain ⟨w7, hwx⟩ : ∃ wx, w6.alloc (.cells #[.string x.s, .bool x.on, .int .i64 x.most, .slice qF x.ts.length dF] TP) = wx := ⟨_, rfl⟩
              rw [hwx] at hal hnew
              have HD7 := Lib.hid (seqB (seqB HD5.out hb) hal)
              have HON := Lib.hid (fun W (hW : Below w7.heap.size w7 W) => cell_of_row _ _ 1 _ _ _ ((hW.block _ (gc.blk_lt hnew)).trans hnew))
              have HWX := Lib.hid hwx
              clear hb hal hnew hwx HFI HD5
              have HSW := Lib.hid (show Calls Tryz.prog 27 #[.slice p n d, .string s, .bool (!x.on)] w7 (OutDo (Nm.doP l ⟨2, 0, s, ⟨#[]⟩, !x.on, noTox⟩).1 0 w7) from by
                have h := switch_any p n d l ⟨2, 0, s, ⟨#[]⟩, !x.on, noTox⟩ w7 rfl HL.out (by omega) HLN.out (prxs_on HI.out HD7.out)
                rw [HBS.out.1] at h
                exact h)
              have HBS2 := Lib.hid HBS.out.2
              generalize (Nm.doP l ⟨2, 0, s, ⟨#[]⟩, !x.on, noTox⟩).1 = LX at *
              clear HBS
              go_wp2_with fail
              rw [HWX.out]
              refine HSW.out.mono ?_
              rintro e w8 ⟨qX, nX, cX, rfl, hpX, hb⟩
              have HD8 := Lib.hid (seqB HD7.out hb)
              have HPX := Lib.hid hpX
              have xon := HON.out _ hb
              have HSV := Lib.hid (show Calls Tryz.prog 27 #[.slice qX nX cX, .string s, .bool x.on] w8 (OutDo l 0 w8) from by
                have h := switch_any qX nX cX LX ⟨2, 0, s, ⟨#[]⟩, x.on, noTox⟩ w8 rfl HPX.out.len (by have := HPX.out.len; have := (right_lean HRTX.out).2; omega) (right_lean HRTX.out).1 HPX.out.prx
                rw [HBS2.out] at h
                exact h)
              clear hb hpX HSW HD7 HON HPX HBS2 HRTX
              go_wp2_with fail
              refine HSV.out.mono ?_
              rintro e w9 ⟨qY, nY, cY, rfl, hpY, hb⟩
              have HD9 := Lib.hid (seqB HD8.out hb)
              have HPY := Lib.hid hpY
              clear hb hpY HSV HD8
              clear xon
              have HAA := Lib.hid (HAL.out _ HD9.out)
              go_wp2_with fail
              refine HAA.out.mono ?_
              rintro e w10 ⟨rfl, hb⟩
              have HD10 := Lib.hid (seqB HD9.out hb)
              have HPYz := Lib.hid (HPY.out.on hb)
              clear hb HAA HD9 HPY
              have HPY := Lib.hid HPYz.out
              clear HPYz
              have HRTY := HRT
              have HS9 := Lib.hid (show Calls Tryz.prog 14 #[.slice qY nY cY, .slice p n d] w10 fun e w' => e = .returned (.bool true) ∧ Below w10.heap.size w10 w' from by
                have h := rsame_any qY p nY n cY d l l w10 HPY.out.len HL.out (by have := HPY.out.len; have := (right_lean HRTY.out).2; omega) (by omega) (lean_of (right_lean HRTY.out).1) (lean_of HLN.out) HPY.out.prx (prxs_on HI.out HD10.out)
                rwa [decide_eq_true rfl] at h)
              go_wp2_with fail
              refine HS9.out.mono ?_
              rintro e w11 ⟨rfl, hb⟩
              have HD11 := Lib.hid (seqB HD10.out hb)
              clear hb HS9 HD10
              clear HPY HRTY
              go_wp2_with fail
              go_ret
              exact ⟨rfl, seqB HB1.out HD11.out⟩
          · by_cases hEC : (Nm.doP l ⟨0, 2, s, ⟨#[]⟩, false, noTox⟩).2 = 0
            · have hfd2 : ¬ Nm.fP l s < l.length := by rw [HL.out]; exact hfd
              rw [bk_none HRT.out hfd2 rfl (Or.inr rfl)] at HT
              have HRTA := HRT
              generalize hLA : l = LA at HT HRTA
              have HLA := Lib.hid hLA
              clear hLA
              go_wp2_with fail
              refine HT.out.mono ?_
              rintro e w4 ⟨qA, nA, cA, rfl, hpA, hb⟩
              have HD4 := Lib.hid (seqB HD3.out hb)
              have HPA := Lib.hid hpA
              clear hb hpA HT HD3
              clear x0 x1 x2 x3 x4 x5
              clear HPA HRTA HLA
              have HC := Lib.hid (show Calls Tryz.prog 24 #[.slice p n d, .string s, .int .i64 2] w4 (OutDo (Nm.doP l ⟨0, 2, s, ⟨#[]⟩, false, noTox⟩).1 (Nm.doP l ⟨0, 2, s, ⟨#[]⟩, false, noTox⟩).2 w4) from add_any p n d l ⟨0, 2, s, ⟨#[]⟩, false, noTox⟩ w4 rfl HSS.out.1 HL.out (by omega) HLN.out (prxs_on HI.out HD4.out))
              obtain ⟨hbk1, hbk2⟩ := Nm.back_add HRT.out (o := ⟨0, 2, s, ⟨#[]⟩, false, noTox⟩) rfl (by rw [← doP_yes HRT.out]; exact hEC) ⟨1, 0, s, ⟨#[]⟩, false, noTox⟩ rfl rfl
              rw [← doP_yes HRT.out] at hbk1 hbk2
              have HRTC := Lib.hid (Nm.doP_right l ⟨0, 2, s, ⟨#[]⟩, false, noTox⟩)
              rw [← doP_yes HRTC.out] at hbk1
              rw [hEC] at HC
              have HBK := Lib.hid hbk1
              have HLC := Lib.hid hbk2
              clear hbk1 hbk2 hEC
              generalize (Nm.doP l ⟨0, 2, s, ⟨#[]⟩, false, noTox⟩).1 = LC at *
              go_wp2_with fail
              refine HC.out.mono ?_
              rintro e w5 ⟨qC, nC, cC, rfl, hpC, hb⟩
              have HD5 := Lib.hid (seqB HD4.out hb)
              have HPC := Lib.hid hpC
              clear hb hpC HC HD4
              have hnC : nC = n + 1 := by rw [← HPC.out.len, HLC.out, HL.out]
              subst hnC
              have HU := Lib.hid (show Calls Tryz.prog 25 #[.slice qC (n + 1) cC, .string s] w5 (OutDo l 0 w5) from by
                have h := drop_any qC (n + 1) cC LC ⟨1, 0, s, ⟨#[]⟩, false, noTox⟩ w5 rfl HPC.out.len (by omega) (right_lean HRTC.out).1 HPC.out.prx
                rw [HBK.out] at h
                exact h)
              clear HPC HBK HLC HRTC
              go_wp2_with fail
              refine HU.out.mono ?_
              rintro e w6 ⟨qD, nD, cD, rfl, hpD, hb⟩
              have HD6 := Lib.hid (seqB HD5.out hb)
              have HPD := Lib.hid hpD
              clear hb hpD HU HD5
              have HRTD := HRT
              have hw12 : IntKind.i64.wrap ((n : Int) + 1) = (n : Int) + 1 := wrapN_id (by omega) (by omega)
              have HS1 := Lib.hid (show Calls Tryz.prog 14 #[.slice qD nD cD, .slice p n d] w6 fun e w' => e = .returned (.bool true) ∧ Below w6.heap.size w6 w' from by
                have h := rsame_any qD p nD n cD d l l w6 HPD.out.len HL.out (by have := HPD.out.len; have := (right_lean HRTD.out).2; omega) (by omega) (lean_of (right_lean HRTD.out).1) (lean_of HLN.out) HPD.out.prx (prxs_on HI.out HD6.out)
                rwa [decide_eq_true rfl] at h)
              go_wp2_with fail
              refine HS1.out.mono ?_
              rintro e w7 ⟨rfl, hb⟩
              have HD7 := Lib.hid (seqB HD6.out hb)
              clear hb HS1 HD6
              clear HPD HRTD
              have HFI := Lib.hid (find_no p n d l s w7 HL.out (by omega) (prxs_on HI.out HD7.out) hfd)
              go_wp2_with fail
              refine HFI.out.mono ?_
              rintro e w8 ⟨rfl, hb⟩
              have hal : Below w8.heap.size w8 (w8.alloc (.cells #[.string ⟨#[]⟩, .bool false, .int .i64 0, .slice none 0 0] TP)) := zero_box _
              obtain ⟨w9, hwx⟩ : ∃ wx, w8.alloc (.cells #[.string ⟨#[]⟩, .bool false, .int .i64 0, .slice none 0 0] TP) = wx := ⟨_, rfl⟩
              rw [hwx] at hal
              have HD9 := Lib.hid (seqB (seqB HD7.out hb) hal)
              have HWX := Lib.hid hwx
              clear hb hal hwx HFI HD7
              have HSW := Lib.hid (show Calls Tryz.prog 27 #[.slice p n d, .string s, .bool true] w9 (OutDo l 142 w9) from by
                have h := switch_any p n d l ⟨2, 0, s, ⟨#[]⟩, true, noTox⟩ w9 rfl HL.out (by omega) HLN.out (prxs_on HI.out HD9.out)
                rw [bk_none HRT.out hfd2 rfl (Or.inl rfl)] at h
                exact h)
              go_wp2_with fail
              rw [HWX.out]
              refine HSW.out.mono ?_
              rintro e w10 ⟨qX, nX, cX, rfl, _, hb⟩
              have HD10 := Lib.hid (seqB HD9.out hb)
              clear hb HSW HD9
              have HAA := Lib.hid (HAL.out _ HD10.out)
              go_wp2_with fail
              refine HAA.out.mono ?_
              rintro e w11 ⟨rfl, hb⟩
              have HD11 := Lib.hid (seqB HD10.out hb)
              clear hb HAA HD10
              go_wp2_with fail
              go_ret
              exact ⟨rfl, seqB HB1.out HD11.out⟩
            · have hfd2 : ¬ Nm.fP l s < l.length := by rw [HL.out]; exact hfd
              rw [bk_none HRT.out hfd2 rfl (Or.inr rfl)] at HT
              have HRTA := HRT
              generalize hLA : l = LA at HT HRTA
              have HLA := Lib.hid hLA
              clear hLA
              go_wp2_with fail
              refine HT.out.mono ?_
              rintro e w4 ⟨qA, nA, cA, rfl, hpA, hb⟩
              have HD4 := Lib.hid (seqB HD3.out hb)
              have HPA := Lib.hid hpA
              clear hb hpA HT HD3
              clear x0 x1 x2 x3 x4 x5
              clear HPA HRTA HLA
              have HC := Lib.hid (show Calls Tryz.prog 24 #[.slice p n d, .string s, .int .i64 2] w4 (OutDo (Nm.doP l ⟨0, 2, s, ⟨#[]⟩, false, noTox⟩).1 (Nm.doP l ⟨0, 2, s, ⟨#[]⟩, false, noTox⟩).2 w4) from add_any p n d l ⟨0, 2, s, ⟨#[]⟩, false, noTox⟩ w4 rfl HSS.out.1 HL.out (by omega) HLN.out (prxs_on HI.out HD4.out))
              generalize hec : (Nm.doP l ⟨0, 2, s, ⟨#[]⟩, false, noTox⟩).2 = EC at *
              have dE : (EC == 0) = false := by simpa using hEC
              have dE2 : decide (EC = 0) = false := decide_eq_false hEC
              clear hEC hec
              generalize (Nm.doP l ⟨0, 2, s, ⟨#[]⟩, false, noTox⟩).1 = LC at *
              go_wp2_with fail
              refine HC.out.mono ?_
              rintro e w5 ⟨qC, nC, cC, rfl, hpC, hb⟩
              have HD5 := Lib.hid (seqB HD4.out hb)
              have HPC := Lib.hid hpC
              clear hb hpC HC HD4
              clear HPC
              have HFI := Lib.hid (find_no p n d l s w5 HL.out (by omega) (prxs_on HI.out HD5.out) hfd)
              go_wp2_with fail
              refine HFI.out.mono ?_
              rintro e w6 ⟨rfl, hb⟩
              have hal : Below w6.heap.size w6 (w6.alloc (.cells #[.string ⟨#[]⟩, .bool false, .int .i64 0, .slice none 0 0] TP)) := zero_box _
              obtain ⟨w7, hwx⟩ : ∃ wx, w6.alloc (.cells #[.string ⟨#[]⟩, .bool false, .int .i64 0, .slice none 0 0] TP) = wx := ⟨_, rfl⟩
              rw [hwx] at hal
              have HD7 := Lib.hid (seqB (seqB HD5.out hb) hal)
              have HWX := Lib.hid hwx
              clear hb hal hwx HFI HD5
              have HSW := Lib.hid (show Calls Tryz.prog 27 #[.slice p n d, .string s, .bool true] w7 (OutDo l 142 w7) from by
                have h := switch_any p n d l ⟨2, 0, s, ⟨#[]⟩, true, noTox⟩ w7 rfl HL.out (by omega) HLN.out (prxs_on HI.out HD7.out)
                rw [bk_none HRT.out hfd2 rfl (Or.inl rfl)] at h
                exact h)
              go_wp2_with fail
              rw [HWX.out]
              refine HSW.out.mono ?_
              rintro e w8 ⟨qX, nX, cX, rfl, _, hb⟩
              have HD8 := Lib.hid (seqB HD7.out hb)
              clear hb HSW HD7
              have HAA := Lib.hid (HAL.out _ HD8.out)
              go_wp2_with fail
              refine HAA.out.mono ?_
              rintro e w9 ⟨rfl, hb⟩
              have HD9 := Lib.hid (seqB HD8.out hb)
              clear hb HAA HD8
              go_wp2_with fail
              go_ret
              exact ⟨rfl, seqB HB1.out HD9.out⟩
        · have k2 : decide ((100 : Int) < (t.s.size : Int)) = true := decide_eq_true (by omega)
          clear ht1 hs1
          go_wp2_with fail
          refine (HAL.out _ HD3.out).mono ?_
          rintro e wz ⟨rfl, hb⟩
          have HZZ := Lib.hid (seqB HB1.out (seqB HD3.out hb))
          clear hb
          go_wp2_with fail
          go_ret
          exact ⟨rfl, HZZ.out⟩
      · have k1 : decide ((100 : Int) < (s.size : Int)) = true := decide_eq_true (by omega)
        clear hs1
        go_wp2_with fail
        refine (HAL.out _ HD3.out).mono ?_
        rintro e wz ⟨rfl, hb⟩
        have HZZ := Lib.hid (seqB HB1.out (seqB HD3.out hb))
        clear hb
        go_wp2_with fail
        go_ret
        exact ⟨rfl, HZZ.out⟩
end Go.Proofs.YtmghkcjljnlocaaGreatDoor

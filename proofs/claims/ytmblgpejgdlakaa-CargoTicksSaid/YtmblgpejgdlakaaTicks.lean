/-
  The walk of chicanelaw07.CargoTicks: it returns true, whatever calls. Conditions: as each states.
-/
import Derived.Test.YtmblgpejgdlakaaV
namespace Go.Proofs.Ytmblgpejgdlakaa.cargoTicks
open Go.RowKit

theorem good_at {ps : List Pc} (h : Good ps) {j : Nat} (hj : j < ps.length) : 0 < (ps.getD j noPc).2.size ∧ (∀ i, i < j → (ps.getD i noPc).1 < (ps.getD j noPc).1) ∧ ps.getD j noPc ∈ ps := by
  rw [List.getD_eq_getElem?_getD, List.getElem?_eq_getElem hj]
  refine ⟨h.1 _ (List.getElem_mem hj), fun i hi => ?_, List.getElem_mem hj⟩
  rw [List.getD_eq_getElem?_getD, List.getElem?_eq_getElem (by omega)]
  exact List.pairwise_iff_getElem.1 h.2 i j (by omega) hj hi
set_option maxRecDepth 100000 in
set_option maxHeartbeats 16000000 in
theorem walk (p : Option Addr) (m d : Nat) (os : List Call) (w : World) (hx : os.length = m) (hmd : m ≤ d) (hd : d ≤ 9223372036854775807) (hz : ∀ o ∈ os, Wf64 o.1 ∧ Wf64 o.2.1 ∧ Wf64 o.2.2.1 ∧ o.2.2.2.size ≤ 140737488351232) (hj : OpsIn w p m os) :
    Calls Try.prog 6 #[.slice p m d] w fun e w' => e = .returned (.bool true) ∧ Below w.heap.size w w' := by
  have HX := Lib.hid hx
  have HJ := Lib.hid hj
  have HZ := Lib.hid hz
  clear hx hz hj
  go_enter Try.func6, Try.ntmps6
  go_wp2_with fail
  refine (new_at w _ (Below.refl _ _)).mono ?_
  rintro e w1 ⟨g, rfl, ha, _⟩
  have HA1 := Lib.hid ha
  clear ha
  obtain ⟨B, hB⟩ : ∃ B, w.heap.size = B := ⟨_, rfl⟩
  rw [hB] at HA1
  clear hB
  go_wp2_with fail
  refine (few_any p m d os _ HX.out hmd hd (fun o ho => (HZ.out o ho).2.2.2) (ops_on HJ.out HA1.out.below)).mono ?_
  rintro e w2 ⟨b, rfl, hf, hb⟩
  have HA2 := Lib.hid (HA1.out.on hb)
  have HF := Lib.hid hf
  clear hb hf HA1
  clear hmd hd
  cases b with
  | false =>
    clear HF
    go_wp2_with fail
    refine (alive_any _).mono ?_
    rintro e w5 ⟨rfl, hb5⟩
    have HB5 := Lib.hid (HA2.out.on hb5).below
    clear hb5
    go_wp2_with fail
    go_ret
    exact ⟨rfl, HB5.out⟩
  | true =>
    obtain ⟨hm, ht⟩ := HF.out rfl
    have HT := Lib.hid ht
    clear HF ht
    go_wp2_with fail
    go_loopw [24] (fun i wr => ∃ (k : Nat) (S : ByteArray) (A : List Int) (last : Int), k ≤ m ∧ i = .int .i64 k ∧ Hid (At w B g S A last (total (os.take k)) wr) ∧ Hid (S.size ≤ total (os.take k))) (fun i _ => m - (intOf i).toNat)
    case atStart => exact ⟨0, ⟨#[]⟩, [], 0, by omega, rfl, HA2, Lib.hid (Nat.zero_le _)⟩
    case round =>
      clear HA2
      obtain ⟨k, S, A, last, hk, rfl, HA, HL⟩ := hrel
      by_cases hlt : k < m
      · obtain ⟨b, o, rfl, hcell⟩ := ops_on HJ.out HA.out.below (by omega)
        obtain ⟨c0, c1, c2, c3⟩ := hcell k hlt
        have hzk := HZ.out _ (at_of os k (by rw [HX.out]; exact hlt))
        have HTK := Lib.hid (total_step os k m HX.out hlt _ rfl)
        have HTL := Lib.hid (Nat.le_trans (total_take_le os (k + 1)) HT.out)
        generalize os.getD k noCall = O at *
        obtain ⟨kd, a, N, s⟩ := O
        simp only at c0 c1 c2 c3 HTK
        rw [← Nat.add_assoc] at c1 c2 c3
        have HID := Lib.hid hzk.2.1
        have hbl := World.block_lt_of_cell? wr _ c0
        have HSS := Lib.hid (show s.size ≤ 5000 by have h1 := HTK.out; have h2 := HTL.out; omega)
        clear hcell hzk
        have HSZ := Lib.hid (show S.size ≤ 5000 by have h1 := HL.out; have h2 := HTK.out; have h3 := HTL.out; omega)
        have hal : Below wr.heap.size wr (wr.alloc (.cells #[.int .i64 kd, .int .i64 a, .int .i64 N, .string s] 31)) := (Below.refl _ _).alloc (Nat.le_refl _) _
        have HA4 := Lib.hid (HA.out.on hal)
        clear hal HA
        go_wp2_with fail
        generalize wr.alloc (.cells #[.int .i64 kd, .int .i64 a, .int .i64 N, .string s] 31) = w4 at *
        obtain ⟨X, hX⟩ : ∃ X, doC S A last kd a N s = X := ⟨_, rfl⟩
        have HXS := Lib.hid (show X.S.size ≤ total (os.take (k + 1)) by have h0 := doC_size S A last kd a N s; rw [hX] at h0; have h1 := HL.out; have h2 := HTK.out; omega)
        have HDs := Lib.hid (does_at (M1 := total (os.take (k + 1))) HA4.out (by rw [HTK.out]; exact Nat.le_refl _) (by have := HTL.out; omega) hX)
        clear hX
        refine HDs.out.mono ?_
        rintro e w7 ⟨rfl, ha7, _⟩
        obtain ⟨S1, A1, l1, nn, t1⟩ := X
        dsimp only at ha7 HXS ⊢
        have HA7 := Lib.hid ha7
        clear ha7 HDs HA4 c0 c1 c2 c3 hbl
        have HS1 := Lib.hid (show S1.size ≤ 5000 by have h1 := HXS.out; have h2 := HTL.out; omega)
        obtain ⟨ps, hps⟩ : ∃ ps, runsK S1 A1 S1.size = ps := ⟨_, rfl⟩
        obtain ⟨mm, hmm⟩ : ∃ mm, ps.length = mm := ⟨_, rfl⟩
        have hinv := HA7.out.inv
        have hrt := runs_tk hinv
        rw [hps] at hrt
        have hml : mm ≤ 5000 := by have := HS1.out; have := hrt.2.2.1; omega
        have HGD := Lib.hid hrt.2.2.2
        have HTK1 := Lib.hid (tk_le (t := l1) (by rw [hrt.2.1]; exact fun x hx => (hinv.rg x hx).2) hrt.2.2.2.1)
        have HMM := Lib.hid hmm
        have HPS := Lib.hid hps
        clear hrt hmm hps hinv
        go_wp2_with fail
        refine (list_at HA7.out HPS.out).mono ?_
        rintro e w8 h
        obtain ⟨⟨q, d4, rfl, ho⟩, hb⟩ := got_of_out HMM.out h
        have HA8 := Lib.hid (HA7.out.on hb)
        have HI8 := Lib.hid (own_pcsIn ho).1
        clear h ho hb HA7
        go_wp2_with fail
        go_loopw [35] (fun i wr => ∃ (j : Nat), j ≤ mm ∧ i = .int .i64 j ∧ Hid (Below w8.heap.size w8 wr)) (fun i _ => mm - (intOf i).toNat)
        case atStart => exact ⟨0, by omega, rfl, Lib.hid (Below.refl _ _)⟩
        case round =>
          obtain ⟨j, hj, rfl, HW⟩ := hrel
          by_cases hlt2 : j < mm
          · obtain ⟨b1, o1, rfl, hc1⟩ := pcs_on HI8.out HW.out (by omega)
            obtain ⟨g0, g1⟩ := hc1 j hlt2
            have hga := good_at HGD.out (j := j) (by rw [HMM.out]; exact hlt2)
            have hx1s := hga.1
            have hx0l := HTK1.out _ hga.2.2
            have hrise := hga.2.1
            by_cases hj0 : 0 < j
            · have h0 := (hc1 (j - 1) (by omega)).1
              have hyx := hrise (j - 1) (by omega)
              generalize (ps.getD (j - 1) noPc).1 = y0 at h0 hyx
              have hw2 : IntKind.i64.wrap ((j : Int) - 1) = ((j - 1 : Nat) : Int) := by rw [IntWalk.i64_in _ (by omega)]; omega
              have hj1 : j - 1 < mm := by omega
              clear hc1 hga hrise
              generalize j - 1 = j1 at h0 hw2 hj1
              generalize ps.getD j noPc = x at g0 g1 hx1s hx0l hyx
              obtain ⟨x0, x1⟩ := x
              simp only at g0 g1 hx1s hx0l hyx
              rw [← Nat.add_assoc] at g1
              have hbl1 : b1 < wr.heap.size := World.block_lt_of_cell? wr _ g0
              have e1 : x1.toList.isEmpty = false := text_some hx1s
              have e2 : decide (x0 ≤ y0) = false := by simp; omega
              have e3 : decide (l1 < x0) = false := by simp; omega
              have e4 : decide ((0 : Int) < (j : Int)) = true := by simp; omega
              clear hyx hx0l hx1s
              go_wp2_with fail
              have hgp := heap_alloc_new wr (.cells #[.int .i64 x0, .string x1] 45)
              have HWP := Lib.hid (show Below w8.heap.size w8 (wr.alloc (.cells #[.int .i64 x0, .string x1] 45)) from HW.out.alloc HW.out.size _)
              have h0p := ((((Below.refl wr.heap.size wr).alloc (Nat.le_refl _) (.cells #[.int .i64 x0, .string x1] 45)).cell (World.block_lt_of_cell? wr _ h0)).trans h0)
              have H0P := Lib.hid h0p
              clear h0 h0p
              have HGP := Lib.hid hgp
              clear hgp g0 g1 hbl1
              generalize wr.alloc (.cells #[.int .i64 x0, .string x1] 45) = w9 at *
              generalize wr.heap.size = gp at *
              have HCK := Lib.hid (show ∀ W, Below w9.heap.size w9 W → (W.cell? ⟨gp, 0, none⟩ = some (.int .i64 x0) ∧ W.cell? ⟨gp, 1, none⟩ = some (.string x1) ∧ W.cell? ⟨b1, o1 + j1 * 2, none⟩ = some (.int .i64 y0)) ∧ Below w9.heap.size w9 W from
                fun W hb => ⟨⟨cell_of_row W gp 0 _ _ _ ((hb.block _ (blk_lt HGP.out)).trans HGP.out), cell_of_row W gp 1 _ _ _ ((hb.block _ (blk_lt HGP.out)).trans HGP.out), (hb.cell (World.block_lt_of_cell? w9 _ H0P.out)).trans H0P.out⟩, hb⟩)
              have HLA := Lib.hid (show ∀ W, Below w9.heap.size w9 W → Calls Try.prog 23 #[.pointer (some ⟨g, 0, none⟩)] W fun e w' => e = .returned (.int .i64 l1) ∧ Below W.heap.size W w' from fun W hW => last_at ((HA8.out.on HWP.out).on hW))
              go_region_held (fun W => (W.cell? ⟨gp, 0, none⟩ = some (.int .i64 x0) ∧ W.cell? ⟨gp, 1, none⟩ = some (.string x1) ∧ W.cell? ⟨b1, o1 + j1 * 2, none⟩ = some (.int .i64 y0)) ∧ Below w9.heap.size w9 W)
                ((refine HCK.out _ ?_
                  go_split_ands
                  first
                    | with_reducible exact (Below.refl _ _).drew
                    | with_reducible assumption))
                (first
                  | (go_at_call 23; go_split_ands; (with_reducible refine Calls.mono (HLA.out _ (by assumption)) ?_); rintro e wa ⟨rfl, hb⟩; (have hba := seqB (by assumption) hb); clear hb))
              have HWA := Lib.hid (seqB HWP.out hba)
              clear hba HCK HLA
              go_split_ands
              go_wp2_with fail
              go_roundw
              case rel => exact ⟨j + 1, by omega, by go_num, HWA⟩
              case measure => simp [intOf]; omega
            · obtain rfl : j = 0 := by omega
              clear hc1 hga hrise
              generalize ps.getD 0 noPc = x at g0 g1 hx1s hx0l
              obtain ⟨x0, x1⟩ := x
              simp only at g0 g1 hx1s hx0l
              simp only [Nat.zero_mul, Nat.add_zero, Nat.zero_add] at g0 g1
              have hbl1 : b1 < wr.heap.size := World.block_lt_of_cell? wr _ g0
              have e1 : x1.toList.isEmpty = false := text_some hx1s
              have e3 : decide (l1 < x0) = false := by simp; omega
              clear hx0l hx1s
              go_wp2_with fail
              have hgp := heap_alloc_new wr (.cells #[.int .i64 x0, .string x1] 45)
              have HWP := Lib.hid (show Below w8.heap.size w8 (wr.alloc (.cells #[.int .i64 x0, .string x1] 45)) from HW.out.alloc HW.out.size _)
              have HGP := Lib.hid hgp
              clear hgp g0 g1 hbl1
              generalize wr.alloc (.cells #[.int .i64 x0, .string x1] 45) = w9 at *
              generalize wr.heap.size = gp at *
              have HCK := Lib.hid (show ∀ W, Below w9.heap.size w9 W → (W.cell? ⟨gp, 0, none⟩ = some (.int .i64 x0) ∧ W.cell? ⟨gp, 1, none⟩ = some (.string x1)) ∧ Below w9.heap.size w9 W from
                fun W hb => ⟨⟨cell_of_row W gp 0 _ _ _ ((hb.block _ (blk_lt HGP.out)).trans HGP.out), cell_of_row W gp 1 _ _ _ ((hb.block _ (blk_lt HGP.out)).trans HGP.out)⟩, hb⟩)
              have HLA := Lib.hid (show ∀ W, Below w9.heap.size w9 W → Calls Try.prog 23 #[.pointer (some ⟨g, 0, none⟩)] W fun e w' => e = .returned (.int .i64 l1) ∧ Below W.heap.size W w' from fun W hW => last_at ((HA8.out.on HWP.out).on hW))
              refine wp_region_held_drew (S := fun W => (W.cell? ⟨gp, 0, none⟩ = some (.int .i64 x0) ∧ W.cell? ⟨gp, 1, none⟩ = some (.string x1)) ∧ Below w9.heap.size w9 W) (by kernel_rfl) (HCK.out _ (Below.refl _ _).drew) (fun hHeld => ?_)
              refine wpAnyH_take (i := 0) (oi := { dst := some 40, op := Op.fieldAddr 45 (Operand.tmp 8) 1, type := 0, pos := _, after := #[], guard := none }) (v := ?v0) rfl (by kernel_rfl) (by kernel_rfl) (by kernel_rfl) (fun _ _ _ h => h) (Or.inl ⟨by rfl, ?hy0⟩) hHeld ?rest0
              case hy0 =>
                intro w hSw
                clear hSw
                (go_simp <;> with_reducible rfl)
              simp only [Act.put, List.setIfInBounds_toArray, List.set_cons_zero, List.set_cons_succ]
              refine wpAnyH_take (i := 1) (oi := { dst := some 41, op := Op.load 9 (Operand.tmp 40), type := 9, pos := _, after := #[{ on := 0, ground := Ground.data }], guard := none }) (v := ?v1) rfl (by kernel_rfl) (by kernel_rfl) (by kernel_rfl) (fun _ _ _ h => h) (Or.inl ⟨by rfl, ?hy1⟩) hHeld ?rest1
              case hy1 =>
                intro w hSw
                obtain ⟨⟨c0, c1⟩, _⟩ := hSw
                (go_simp <;> with_reducible rfl)
              simp only [Act.put, List.setIfInBounds_toArray, List.set_cons_zero, List.set_cons_succ]
              refine wpAnyH_take (i := 2) (oi := { dst := some 42, op := Op.binOp BinOp.eql 9 (Operand.tmp 41) (Operand.const (Value.string { data := #[] })) 9, type := 4, pos := _, after := #[{ on := 1, ground := Ground.data }], guard := none }) (v := ?v2) rfl (by kernel_rfl) (by kernel_rfl) (by kernel_rfl) (fun _ _ _ h => h) (Or.inl ⟨by rfl, ?hy2⟩) hHeld ?rest2
              case hy2 =>
                intro w hSw
                clear hSw
                (go_simp <;> with_reducible rfl)
              simp only [Act.put, List.setIfInBounds_toArray, List.set_cons_zero, List.set_cons_succ]
              refine wpAnyH_take (i := 3) (oi := { dst := some 43, op := Op.move (Operand.tmp 42), type := 4, pos := _, after := #[{ on := 2, ground := Ground.data }], guard := none }) (v := ?v3) rfl (by kernel_rfl) (by kernel_rfl) (by kernel_rfl) (fun _ _ _ h => h) (Or.inl ⟨by rfl, ?hy3⟩) hHeld ?rest3
              case hy3 =>
                intro w hSw
                clear hSw
                (go_simp <;> with_reducible rfl)
              simp only [Act.put, List.setIfInBounds_toArray, List.set_cons_zero, List.set_cons_succ]
              refine wpAnyH_take (i := 4) (oi := { dst := some 44, op := Op.move (Operand.tmp 7), type := 3, pos := _, after := #[{ on := 3, ground := Ground.guard }], guard := some (3, false) }) (v := ?v4) rfl (by kernel_rfl) (by kernel_rfl) (by kernel_rfl) (fun _ _ _ h => h) (Or.inl ⟨by rfl, ?hy4⟩) hHeld ?rest4
              case hy4 =>
                intro w hSw
                clear hSw
                (go_simp <;> with_reducible rfl)
              simp only [Act.put, List.setIfInBounds_toArray, List.set_cons_zero, List.set_cons_succ]
              refine wpAnyH_take (i := 5) (oi := { dst := some 45, op := Op.binOp BinOp.gtr 3 (Operand.tmp 44) (Operand.const (Value.int IntKind.i64 0)) 3, type := 4, pos := _, after := #[{ on := 4, ground := Ground.data }, { on := 3, ground := Ground.guard }], guard := some (3, false) }) (v := ?v5) rfl (by kernel_rfl) (by kernel_rfl) (by kernel_rfl) (fun _ _ _ h => h) (Or.inl ⟨by rfl, ?hy5⟩) hHeld ?rest5
              case hy5 =>
                intro w hSw
                clear hSw
                (go_simp <;> with_reducible rfl)
              simp only [Act.put, List.setIfInBounds_toArray, List.set_cons_zero, List.set_cons_succ]
              refine wpAnyH_take (i := 6) (oi := { dst := some 46, op := Op.move (Operand.tmp 45), type := 4, pos := _, after := #[{ on := 5, ground := Ground.data }, { on := 3, ground := Ground.chain }, { on := 3, ground := Ground.guard }], guard := some (3, false) }) (v := ?v6) rfl (by kernel_rfl) (by kernel_rfl) (by kernel_rfl) (fun _ _ _ h => h) (Or.inl ⟨by rfl, ?hy6⟩) hHeld ?rest6
              case hy6 =>
                intro w hSw
                clear hSw
                (go_simp <;> with_reducible rfl)
              simp only [Act.put, List.setIfInBounds_toArray, List.set_cons_zero, List.set_cons_succ]
              refine wpAnyH_take (i := 7) (oi := { dst := some 47, op := Op.move (Operand.tmp 6), type := 42, pos := _, after := #[{ on := 6, ground := Ground.guard }], guard := some (6, true) }) (v := undef) rfl (by kernel_rfl) (by kernel_rfl) (by kernel_rfl) (fun _ _ _ h => h) (Or.inr ⟨by rfl, rfl⟩) hHeld ?_
              simp only [Act.put, List.setIfInBounds_toArray, List.set_cons_zero, List.set_cons_succ]
              refine wpAnyH_take (i := 8) (oi := { dst := some 48, op := Op.move (Operand.tmp 7), type := 3, pos := _, after := #[{ on := 6, ground := Ground.guard }], guard := some (6, true) }) (v := undef) rfl (by kernel_rfl) (by kernel_rfl) (by kernel_rfl) (fun _ _ _ h => h) (Or.inr ⟨by rfl, rfl⟩) hHeld ?_
              simp only [Act.put, List.setIfInBounds_toArray, List.set_cons_zero, List.set_cons_succ]
              refine wpAnyH_take (i := 9) (oi := { dst := some 49, op := Op.binOp BinOp.sub 3 (Operand.tmp 48) (Operand.const (Value.int IntKind.i64 1)) 3, type := 3, pos := _, after := #[{ on := 8, ground := Ground.data }, { on := 6, ground := Ground.guard }], guard := some (6, true) }) (v := undef) rfl (by kernel_rfl) (by kernel_rfl) (by kernel_rfl) (fun _ _ _ h => h) (Or.inr ⟨by rfl, rfl⟩) hHeld ?_
              simp only [Act.put, List.setIfInBounds_toArray, List.set_cons_zero, List.set_cons_succ]
              refine wpAnyH_take (i := 10) (oi := { dst := some 50, op := Op.indexAddr 42 (Operand.tmp 47) (Operand.tmp 49), type := 0, pos := _, after := #[{ on := 7, ground := Ground.data }, { on := 9, ground := Ground.data }, { on := 6, ground := Ground.guard }], guard := some (6, true) }) (v := undef) rfl (by kernel_rfl) (by kernel_rfl) (by kernel_rfl) (fun _ _ _ h => h) (Or.inr ⟨by rfl, rfl⟩) hHeld ?_
              simp only [Act.put, List.setIfInBounds_toArray, List.set_cons_zero, List.set_cons_succ]
              refine wpAnyH_take (i := 11) (oi := { dst := some 51, op := Op.fieldAddr 45 (Operand.tmp 50) 0, type := 0, pos := _, after := #[{ on := 10, ground := Ground.data }, { on := 6, ground := Ground.guard }], guard := some (6, true) }) (v := undef) rfl (by kernel_rfl) (by kernel_rfl) (by kernel_rfl) (fun _ _ _ h => h) (Or.inr ⟨by rfl, rfl⟩) hHeld ?_
              simp only [Act.put, List.setIfInBounds_toArray, List.set_cons_zero, List.set_cons_succ]
              refine wpAnyH_take (i := 12) (oi := { dst := some 52, op := Op.load 3 (Operand.tmp 51), type := 3, pos := _, after := #[{ on := 11, ground := Ground.data }, { on := 6, ground := Ground.guard }], guard := some (6, true) }) (v := undef) rfl (by kernel_rfl) (by kernel_rfl) (by kernel_rfl) (fun _ _ _ h => h) (Or.inr ⟨by rfl, rfl⟩) hHeld ?_
              simp only [Act.put, List.setIfInBounds_toArray, List.set_cons_zero, List.set_cons_succ]
              refine wpAnyH_take (i := 13) (oi := { dst := some 53, op := Op.fieldAddr 45 (Operand.tmp 8) 0, type := 0, pos := _, after := #[{ on := 6, ground := Ground.guard }], guard := some (6, true) }) (v := undef) rfl (by kernel_rfl) (by kernel_rfl) (by kernel_rfl) (fun _ _ _ h => h) (Or.inr ⟨by rfl, rfl⟩) hHeld ?_
              simp only [Act.put, List.setIfInBounds_toArray, List.set_cons_zero, List.set_cons_succ]
              refine wpAnyH_take (i := 14) (oi := { dst := some 54, op := Op.load 3 (Operand.tmp 53), type := 3, pos := _, after := #[{ on := 13, ground := Ground.data }, { on := 6, ground := Ground.guard }], guard := some (6, true) }) (v := undef) rfl (by kernel_rfl) (by kernel_rfl) (by kernel_rfl) (fun _ _ _ h => h) (Or.inr ⟨by rfl, rfl⟩) hHeld ?_
              simp only [Act.put, List.setIfInBounds_toArray, List.set_cons_zero, List.set_cons_succ]
              refine wpAnyH_take (i := 15) (oi := { dst := some 55, op := Op.binOp BinOp.geq 3 (Operand.tmp 52) (Operand.tmp 54) 3, type := 4, pos := _, after := #[{ on := 12, ground := Ground.data }, { on := 14, ground := Ground.data }, { on := 6, ground := Ground.guard }], guard := some (6, true) }) (v := undef) rfl (by kernel_rfl) (by kernel_rfl) (by kernel_rfl) (fun _ _ _ h => h) (Or.inr ⟨by rfl, rfl⟩) hHeld ?_
              simp only [Act.put, List.setIfInBounds_toArray, List.set_cons_zero, List.set_cons_succ]
              refine wpAnyH_take (i := 16) (oi := { dst := some 56, op := Op.pick (Operand.tmp 46) (Operand.tmp 55) (Operand.const (Value.bool false)), type := 4, pos := _, after := #[{ on := 6, ground := Ground.data }, { on := 15, ground := Ground.data }, { on := 3, ground := Ground.guard }], guard := some (3, false) }) (v := ?v16) rfl (by kernel_rfl) (by kernel_rfl) (by kernel_rfl) (fun _ _ _ h => h) (Or.inl ⟨by rfl, ?hy16⟩) hHeld ?rest16
              case hy16 =>
                intro w hSw
                clear hSw
                (go_simp <;> with_reducible rfl)
              simp only [Act.put, List.setIfInBounds_toArray, List.set_cons_zero, List.set_cons_succ]
              refine wpAnyH_take (i := 17) (oi := { dst := some 57, op := Op.pick (Operand.tmp 43) (Operand.const (Value.bool true)) (Operand.tmp 56), type := 4, pos := _, after := #[{ on := 3, ground := Ground.data }, { on := 16, ground := Ground.data }], guard := none }) (v := ?v17) rfl (by kernel_rfl) (by kernel_rfl) (by kernel_rfl) (fun _ _ _ h => h) (Or.inl ⟨by rfl, ?hy17⟩) hHeld ?rest17
              case hy17 =>
                intro w hSw
                clear hSw
                (go_simp <;> with_reducible rfl)
              simp only [Act.put, List.setIfInBounds_toArray, List.set_cons_zero, List.set_cons_succ]
              refine wpAnyH_take (i := 18) (oi := { dst := some 58, op := Op.move (Operand.tmp 57), type := 4, pos := _, after := #[{ on := 17, ground := Ground.data }, { on := 6, ground := Ground.chain }], guard := none }) (v := ?v18) rfl (by kernel_rfl) (by kernel_rfl) (by kernel_rfl) (fun _ _ _ h => h) (Or.inl ⟨by rfl, ?hy18⟩) hHeld ?rest18
              case hy18 =>
                intro w hSw
                clear hSw
                (go_simp <;> with_reducible rfl)
              simp only [Act.put, List.setIfInBounds_toArray, List.set_cons_zero, List.set_cons_succ]
              refine wpAnyH_take (i := 19) (oi := { dst := some 59, op := Op.fieldAddr 45 (Operand.tmp 8) 0, type := 0, pos := _, after := #[{ on := 18, ground := Ground.guard }], guard := some (18, false) }) (v := ?v19) rfl (by kernel_rfl) (by kernel_rfl) (by kernel_rfl) (fun _ _ _ h => h) (Or.inl ⟨by rfl, ?hy19⟩) hHeld ?rest19
              case hy19 =>
                intro w hSw
                clear hSw
                (go_simp <;> with_reducible rfl)
              simp only [Act.put, List.setIfInBounds_toArray, List.set_cons_zero, List.set_cons_succ]
              refine wpAnyH_take (i := 20) (oi := { dst := some 60, op := Op.load 3 (Operand.tmp 59), type := 3, pos := _, after := #[{ on := 19, ground := Ground.data }, { on := 18, ground := Ground.guard }], guard := some (18, false) }) (v := ?v20) rfl (by kernel_rfl) (by kernel_rfl) (by kernel_rfl) (fun _ _ _ h => h) (Or.inl ⟨by rfl, ?hy20⟩) hHeld ?rest20
              case hy20 =>
                intro w hSw
                obtain ⟨⟨c0, c1⟩, _⟩ := hSw
                (go_simp <;> with_reducible rfl)
              simp only [Act.put, List.setIfInBounds_toArray, List.set_cons_zero, List.set_cons_succ]
              refine wpAnyH_take (i := 21) (oi := { dst := some 61, op := Op.move (Operand.tmp 3), type := 23, pos := _, after := #[{ on := 18, ground := Ground.guard }], guard := some (18, false) }) (v := ?v21) rfl (by kernel_rfl) (by kernel_rfl) (by kernel_rfl) (fun _ _ _ h => h) (Or.inl ⟨by rfl, ?hy21⟩) hHeld ?rest21
              case hy21 =>
                intro w hSw
                clear hSw
                (go_simp <;> with_reducible rfl)
              simp only [Act.put, List.setIfInBounds_toArray, List.set_cons_zero, List.set_cons_succ]
              refine wpAnyH_ready (rs := [22]) (by kernel_rfl) (by simp) ?_
              refine AllReadyH.cons (o := { dst := some 62, op := Op.call { callee := Callee.value (Operand.func 23), args := #[Operand.tmp 61], argTypes := #[23] }, type := 3, pos := _, after := #[{ on := 21, ground := Ground.data }, { on := 18, ground := Ground.chain }, { on := 18, ground := Ground.guard }], guard := some (18, false) }) rfl (fun K hK => ?_) AllReadyH.nil
              go_simp
              go_at_call 23
              refine (HLA.out _ (hHeld).2).mono ?_
              rintro e wa ⟨rfl, hb⟩
              go_wp2_with fail
              refine hK.out _ _ (HCK.out _ (seqB (hHeld).2 hb)) (fun hHeld1 => ?_)
              clear hb
              clear hK K hHeld
              refine wpAnyH_take (i := 23) (oi := { dst := some 63, op := Op.binOp BinOp.gtr 3 (Operand.tmp 60) (Operand.tmp 62) 3, type := 4, pos := _, after := #[{ on := 20, ground := Ground.data }, { on := 22, ground := Ground.data }, { on := 18, ground := Ground.guard }], guard := some (18, false) }) (v := ?v23) rfl (by kernel_rfl) (by kernel_rfl) (by kernel_rfl) (fun _ _ _ h => h) (Or.inl ⟨by rfl, ?hy23⟩) hHeld1 ?rest23
              case hy23 =>
                intro w hSw
                clear hSw
                (go_simp <;> with_reducible rfl)
              simp only [Act.put, List.setIfInBounds_toArray, List.set_cons_zero, List.set_cons_succ]
              refine wpAnyH_take (i := 24) (oi := { dst := some 64, op := Op.pick (Operand.tmp 58) (Operand.const (Value.bool true)) (Operand.tmp 63), type := 4, pos := _, after := #[{ on := 18, ground := Ground.data }, { on := 23, ground := Ground.data }], guard := none }) (v := ?v24) rfl (by kernel_rfl) (by kernel_rfl) (by kernel_rfl) (fun _ _ _ h => h) (Or.inl ⟨by rfl, ?hy24⟩) hHeld1 ?rest24
              case hy24 =>
                intro w hSw
                clear hSw
                (go_simp <;> with_reducible rfl)
              simp only [Act.put, List.setIfInBounds_toArray, List.set_cons_zero, List.set_cons_succ]
              refine wpAnyH_done (by kernel_rfl) ?_ _
              have hba := hHeld1.2
              clear hHeld1
              have HWA := Lib.hid (seqB HWP.out hba)
              clear hba HCK HLA
              go_split_ands
              go_wp2_with fail
              go_roundw
              case rel => exact ⟨0 + 1, by omega, by go_num, HWA⟩
              case measure => simp [intOf]; omega
          · have HA9 := Lib.hid (HA8.out.on HW.out)
            clear HA8 HI8 HW
            go_wp2_with fail
            go_roundw
            case rel => exact ⟨k + 1, S1, A1, l1, by omega, by go_num, HA9, HXS⟩
            case measure => simp [intOf]; omega
      · obtain rfl : k = m := by omega
        have HSZ := Lib.hid (show S.size ≤ 5000 by have h1 := HL.out; have h2 := total_take_le os k; have h3 := HT.out; omega)
        have HINV := Lib.hid HA.out.inv
        clear hlt hk HL
        go_wp2_with fail
        refine (alive_any _).mono ?_
        rintro e w5 ⟨rfl, hb5⟩
        have HB5 := Lib.hid (HA.out.on hb5).below
        clear hb5
        go_wp2_with fail
        go_ret
        exact ⟨rfl, HB5.out⟩
end Go.Proofs.Ytmblgpejgdlakaa.cargoTicks

/-
  The walk of chicanelaw05.RingCopies: it returns true, whatever room and calls. Conditions: as each states.
-/
import Derived.Test.YtkjljnfhnkaocaaW13
namespace Go.Proofs.Ytkjljnfhnkaocaa.ringCopies
open Go.RowKit

set_option maxHeartbeats 2000000 in
theorem walk_no (room : Int) (p p' : Option Addr) (m d m' d' : Nat) (h : ¬ (0 ≤ room ∧ room ≤ 4096)) (w : World) :
    Calls Try.prog 5 #[.int .i64 room, .slice p m d, .slice p' m' d'] w fun e w' => e = .returned (.bool true) ∧ Below w.heap.size w w' := by
  go_enter Try.func5, Try.ntmps5
  go_wp2_with fail
  refine (new_no room h _).mono ?_
  rintro e w1 ⟨rfl, rfl⟩
  go_wp2_with fail
  refine (alive_any _).mono ?_
  rintro e w5 ⟨rfl, hb5⟩
  have HB5 := Lib.hid hb5
  clear hb5
  go_wp2_with fail
  go_ret
  exact ⟨rfl, HB5.out⟩
set_option maxRecDepth 100000 in
set_option maxHeartbeats 16000000 in
theorem walk_main (room : Int) (p p' : Option Addr) (m d m' d' : Nat) (os os' : List Call) (w : World) (h0 : 0 ≤ room) (h1 : room ≤ 4096) (hx : os.length = m) (hmd : m ≤ d) (hd : d ≤ 9223372036854775807) (hz : ∀ o ∈ os, o.2.2.size ≤ 140737488351232) (hj : OpsIn w p m os)
    (hx' : os'.length = m') (hmd' : m' ≤ d') (hd' : d' ≤ 9223372036854775807) (hz' : ∀ o ∈ os', o.2.2.size ≤ 140737488351232) (hj' : OpsIn w p' m' os') :
    Calls Try.prog 5 #[.int .i64 room, .slice p m d, .slice p' m' d'] w fun e w' => e = .returned (.bool true) ∧ Below w.heap.size w w' := by
  have HX := Lib.hid hx
  have HZ := Lib.hid hz
  have HJ := Lib.hid hj
  have HX' := Lib.hid hx'
  have HZ' := Lib.hid hz'
  have HJ' := Lib.hid hj'
  clear hx hz hj hx' hz' hj'
  go_enter Try.func5, Try.ntmps5
  go_wp2_with fail
  refine (new_any room h0 h1 _).mono ?_
  rintro e w1 ⟨rfl, hr, hb1, _⟩
  have HA := Lib.hid (show At w w.heap.size w.heap.size room [] w1 from ⟨none, hr, hb1, Nat.le_refl _⟩)
  clear hr hb1
  generalize w.heap.size = g at *
  go_wp2_with fail
  refine (few_any p m d os _ HX.out hmd hd HZ.out (ops_on HJ.out HA.out.below)).mono ?_
  rintro e w2 ⟨b, rfl, hf, hb2⟩
  have HA2 := Lib.hid (HA.out.on hb2)
  have HF := Lib.hid hf
  clear hf hb2 HA
  cases b with
  | false =>
    clear HF
    go_wp2_with fail
    refine (alive_any _).mono ?_
    rintro e w5 ⟨rfl, hb5⟩
    have HB5 := Lib.hid (HA2.out.on hb5).below
    clear hb5
    go_wp2_with fail
    go_ret
    exact ⟨rfl, HB5.out⟩
  | true =>
    obtain ⟨hm, ht⟩ := HF.out rfl
    have HT := Lib.hid ht
    clear HF ht
    go_wp2_with fail
    refine (few_any p' m' d' os' _ HX'.out hmd' hd' HZ'.out (ops_on HJ'.out HA2.out.below)).mono ?_
    rintro e w2' ⟨b, rfl, hf, hb2⟩
    have HA := Lib.hid (HA2.out.on hb2)
    have HF := Lib.hid hf
    clear hf hb2 HA2
    cases b with
    | false =>
      clear HF
      go_wp2_with fail
      refine (alive_any _).mono ?_
      rintro e w5 ⟨rfl, hb5⟩
      have HB5 := Lib.hid (HA.out.on hb5).below
      clear hb5
      go_wp2_with fail
      go_ret
      exact ⟨rfl, HB5.out⟩
    | true =>
      obtain ⟨hm', ht'⟩ := HF.out rfl
      have HT' := Lib.hid ht'
      clear HF ht'
      go_wp2_with fail
      have HA3 := Lib.hid (HA.out.on (w' := w2'.alloc (.cells #[.string ⟨#[]⟩, .int .i64 room] 31)) ((Below.refl _ _).alloc (Nat.le_refl _) _))
      have HQ3 := Lib.hid (heap_alloc_new w2' (.cells #[.string ⟨#[]⟩, .int .i64 room] 31))
      have hgq := HA.out.below.size
      generalize w2'.alloc (.cells #[.string ⟨#[]⟩, .int .i64 room] 31) = w3 at *
      generalize w2'.heap.size = gq at *
      clear HA
      go_loopw [50] (fun i wr => ∃ (k : Nat) (S : ByteArray), k ≤ m ∧ i = .int .i64 k ∧ Hid (At w g g room (nums S) wr) ∧ Hid (wr.heap[gq]? = some (.cells #[.string S, .int .i64 room] 31 (0, 0))) ∧ Hid (S.size ≤ total (os.take k))) (fun i _ => m - (intOf i).toNat)
      case atStart => exact ⟨0, ⟨#[]⟩, by omega, rfl, HA3, HQ3, Lib.hid (Nat.zero_le _)⟩
      case round =>
        clear HA3 HQ3
        obtain ⟨k, S, hk, rfl, HA, HQ, HS⟩ := hrel
        by_cases hlt : k < m
        · obtain ⟨b, o, rfl, hc⟩ := ops_on HJ.out HA.out.below (by omega)
          obtain ⟨g0, g1, g2⟩ := hc k hlt
          have HTK := Lib.hid (total_step os k m HX.out hlt _ rfl)
          have HTL := Lib.hid (Nat.le_trans (total_take_le os (k + 1)) HT.out)
          generalize os.getD k noCall = op at *
          obtain ⟨kind, N, A⟩ := op
          simp only at g0 g1 g2 HTK
          rw [← Nat.add_assoc] at g1 g2
          have hbl : b < wr.heap.size := World.block_lt_of_cell? wr _ g0
          obtain ⟨S', n, T, hst⟩ := step_all S room kind N A h0 h1 (by have := HS.out; have := HTL.out; have := HTK.out; omega) (by have := HTL.out; have := HTK.out; omega)
          have HST := Lib.hid hst
          have HS' := Lib.hid (show S'.size ≤ total (os.take (k + 1)) by have := hst.size; have := HS.out; have := HTK.out; omega)
          have q0 : wr.cell? ⟨gq, 0, none⟩ = some (.string S) := cell_of_row wr gq 0 _ _ _ HQ.out
          have q1 : wr.cell? ⟨gq, 1, none⟩ = some (.int .i64 room) := cell_of_row wr gq 1 _ _ _ HQ.out
          have hql : gq < wr.heap.size := blk_lt HQ.out
          clear hc hst HTK
          go_wp2_with fail
          have hbw : Below wr.heap.size wr (wr.alloc (.cells #[.int .i64 kind, .int .i64 N, .string A] 33)) := (Below.refl _ _).alloc (Nat.le_refl _) _
          have HA4 := Lib.hid (HA.out.on hbw)
          have HQ4 := Lib.hid ((hbw.block gq hql).trans HQ.out)
          have HO4 := Lib.hid (heap_alloc_new wr (.cells #[.int .i64 kind, .int .i64 N, .string A] 33))
          generalize wr.alloc (.cells #[.int .i64 kind, .int .i64 N, .string A] 33) = w4 at *
          generalize wr.heap.size = go at *
          clear hbw HA HQ q0 q1 g0 g1 g2 hbl
          refine (HST.out.did _).mono ?_
          rintro e w5 ⟨rfl, hb5⟩
          have HA5 := Lib.hid (HA4.out.on hb5)
          have HQ5 := Lib.hid ((hb5.block gq (blk_lt HQ4.out)).trans HQ4.out)
          have HO5 := Lib.hid ((hb5.block go (blk_lt HO4.out)).trans HO4.out)
          clear hb5 HA4 HQ4 HO4
          have hq5 : gq < w5.heap.size := blk_lt HQ5.out
          have ho5 : go < w5.heap.size := blk_lt HO5.out
          have q0 : w5.cell? ⟨gq, 0, none⟩ = some (.string S) := cell_of_row w5 gq 0 _ _ _ HQ5.out
          have q1 : w5.cell? ⟨gq, 1, none⟩ = some (.int .i64 room) := cell_of_row w5 gq 1 _ _ _ HQ5.out
          have f0 : w5.frozen? ⟨gq, 0, none⟩ = false := frozen_at HQ5.out
          have f1 : w5.frozen? ⟨gq, 1, none⟩ = false := frozen_at HQ5.out
          have o0 : w5.cell? ⟨go, 0, none⟩ = some (.int .i64 kind) := cell_of_row w5 go 0 _ _ _ HO5.out
          have o1 : w5.cell? ⟨go, 1, none⟩ = some (.int .i64 N) := cell_of_row w5 go 1 _ _ _ HO5.out
          have o2 : w5.cell? ⟨go, 2, none⟩ = some (.string A) := cell_of_row w5 go 2 _ _ _ HO5.out
          have hgo : ¬ gq = go := by omega
          have hgw : w.heap.size ≤ gq := hgq
          obtain ⟨ha6, hq6⟩ := At.set_q (a' := .string S') (b' := .int .i64 room) HA5.out HQ5.out hgw
          have ho6 : ((w5.setCell ⟨gq, 0, none⟩ (.string S')).setCell ⟨gq, 1, none⟩ (.int .i64 room)).heap[go]? = some (.cells #[.int .i64 kind, .int .i64 N, .string A] 33 (0, 0)) := by
            rw [Below.heap_setCell _ _ _ _ (fun e => hgo e.symm), Below.heap_setCell _ _ _ _ (fun e => hgo e.symm)]
            exact HO5.out
          have hal : Below _ _ (((w5.setCell ⟨gq, 0, none⟩ (.string S')).setCell ⟨gq, 1, none⟩ (.int .i64 room)).alloc (.cells #[.string S', .int .i64 room] 31)) := (Below.refl _ _).alloc (Nat.le_refl _) _
          have HA6 := Lib.hid (ha6.on hal)
          have HQ6 := Lib.hid ((hal.block gq (blk_lt hq6)).trans hq6)
          have HO6 := Lib.hid ((hal.block go (blk_lt ho6)).trans ho6)
          clear ha6 hq6 ho6 hal HA5 HQ5 HO5
          go_wp2_with fail
          generalize ((w5.setCell ⟨gq, 0, none⟩ (.string S')).setCell ⟨gq, 1, none⟩ (.int .i64 room)).alloc (.cells #[.string S', .int .i64 room] 31) = w6 at *
          clear q0 q1 f0 f1 o0 o1 o2 hq5 ho5
          refine (does_k HA6.out HST.out).mono ?_
          rintro e w7 ⟨rfl, ha7, hk7⟩
          have HQ7 := Lib.hid (hk7 gq _ _ _ (by decide) (by decide) HQ6.out)
          have HA7 := Lib.hid ha7
          clear ha7 hk7 HA6 HQ6 HO6 HST
          go_wp2_with fail
          go_roundw
          case rel => exact ⟨k + 1, S', by omega, by go_num, HA7, HQ7, HS'⟩
          case measure => simp [intOf]; omega
        · rename World => wC
          have HS5 := Lib.hid (show S.size ≤ 20000 by have := HS.out; have := total_take_le os k; have := HT.out; omega)
          clear HS
          go_wp2_with fail
          have hnl : (nums S).length ≤ 100000 := by rw [nums_length]; have := HS5.out; omega
          refine (copy_at HA.out hnl).mono ?_
          rintro e w10 ⟨gc, rfl, hac⟩
          have HAR := Lib.hid HA.out
          have HC := Lib.hid hac
          have HQC := Lib.hid ((hac.below.block gq (blk_lt HQ.out)).trans HQ.out)
          have q0 : w10.cell? ⟨gq, 0, none⟩ = some (.string S) := cell_of_row w10 gq 0 _ _ _ HQC.out
          have q1 : w10.cell? ⟨gq, 1, none⟩ = some (.int .i64 room) := cell_of_row w10 gq 1 _ _ _ HQC.out
          clear hac hnl HA
          go_wp2_with fail
          have HC3 := Lib.hid (HC.out.on (w' := w10.alloc (.cells #[.string S, .int .i64 room] 31)) ((Below.refl _ _).alloc (Nat.le_refl _) _))
          have HP3 := Lib.hid (heap_alloc_new w10 (.cells #[.string S, .int .i64 room] 31))
          have hgp := HC.out.below.size
          clear q0 q1 HQC
          generalize w10.alloc (.cells #[.string S, .int .i64 room] 31) = w11 at *
          generalize w10.heap.size = gp at *
          clear HC
          go_loopw [73] (fun i wx => ∃ (k : Nat) (P : ByteArray), k ≤ m' ∧ i = .int .i64 k ∧ Hid (At wC wC.heap.size gc room (nums P) wx) ∧ Hid (wx.heap[gp]? = some (.cells #[.string P, .int .i64 room] 31 (0, 0))) ∧ Hid (P.size ≤ S.size + total (os'.take k))) (fun i _ => m' - (intOf i).toNat)
          case atStart => exact ⟨0, S, by omega, rfl, HC3, HP3, Lib.hid (Nat.le_add_right _ _)⟩
          case round =>
            clear HC3 HP3
            obtain ⟨k, P, hk, rfl, HA, HQ', HSP⟩ := hrel
            by_cases hlt : k < m'
            · obtain ⟨b, o, rfl, hc⟩ := ops_on HJ'.out (seqB HAR.out.below HA.out.below) (by omega)
              obtain ⟨g0, g1, g2⟩ := hc k hlt
              have HTK := Lib.hid (total_step os' k m' HX'.out hlt _ rfl)
              have HTL := Lib.hid (Nat.le_trans (total_take_le os' (k + 1)) HT'.out)
              generalize os'.getD k noCall = op at *
              obtain ⟨kind, N, A⟩ := op
              simp only at g0 g1 g2 HTK
              rw [← Nat.add_assoc] at g1 g2
              have hbl : b < wr.heap.size := World.block_lt_of_cell? wr _ g0
              obtain ⟨P', n, T, hst⟩ := step_all P room kind N A h0 h1 (by have := HSP.out; have := HS5.out; have := HTL.out; have := HTK.out; omega) (by have := HTL.out; have := HTK.out; omega)
              have HST := Lib.hid hst
              have HSP' := Lib.hid (show P'.size ≤ S.size + total (os'.take (k + 1)) by have := hst.size; have := HSP.out; have := HTK.out; omega)
              have q0 : wr.cell? ⟨gp, 0, none⟩ = some (.string P) := cell_of_row wr gp 0 _ _ _ HQ'.out
              have q1 : wr.cell? ⟨gp, 1, none⟩ = some (.int .i64 room) := cell_of_row wr gp 1 _ _ _ HQ'.out
              have hql : gp < wr.heap.size := blk_lt HQ'.out
              clear hc hst HTK
              go_wp2_with fail
              have hbw : Below wr.heap.size wr (wr.alloc (.cells #[.int .i64 kind, .int .i64 N, .string A] 33)) := (Below.refl _ _).alloc (Nat.le_refl _) _
              have HA4 := Lib.hid (HA.out.on hbw)
              have HQ4 := Lib.hid ((hbw.block gp hql).trans HQ'.out)
              have HO4 := Lib.hid (heap_alloc_new wr (.cells #[.int .i64 kind, .int .i64 N, .string A] 33))
              generalize wr.alloc (.cells #[.int .i64 kind, .int .i64 N, .string A] 33) = w4 at *
              generalize wr.heap.size = go' at *
              clear hbw HA HQ' q0 q1 g0 g1 g2 hbl
              refine (HST.out.did _).mono ?_
              rintro e w5 ⟨rfl, hb5⟩
              have HA5 := Lib.hid (HA4.out.on hb5)
              have HQ5 := Lib.hid ((hb5.block gp (blk_lt HQ4.out)).trans HQ4.out)
              have HO5 := Lib.hid ((hb5.block go' (blk_lt HO4.out)).trans HO4.out)
              clear hb5 HA4 HQ4 HO4
              have hq5 : gp < w5.heap.size := blk_lt HQ5.out
              have ho5 : go' < w5.heap.size := blk_lt HO5.out
              have q0 : w5.cell? ⟨gp, 0, none⟩ = some (.string P) := cell_of_row w5 gp 0 _ _ _ HQ5.out
              have q1 : w5.cell? ⟨gp, 1, none⟩ = some (.int .i64 room) := cell_of_row w5 gp 1 _ _ _ HQ5.out
              have f0 : w5.frozen? ⟨gp, 0, none⟩ = false := frozen_at HQ5.out
              have f1 : w5.frozen? ⟨gp, 1, none⟩ = false := frozen_at HQ5.out
              have o0 : w5.cell? ⟨go', 0, none⟩ = some (.int .i64 kind) := cell_of_row w5 go' 0 _ _ _ HO5.out
              have o1 : w5.cell? ⟨go', 1, none⟩ = some (.int .i64 N) := cell_of_row w5 go' 1 _ _ _ HO5.out
              have o2 : w5.cell? ⟨go', 2, none⟩ = some (.string A) := cell_of_row w5 go' 2 _ _ _ HO5.out
              have hgo : ¬ gp = go' := by omega
              have hgw : wC.heap.size ≤ gp := hgp
              obtain ⟨ha6, hq6⟩ := At.set_q (a' := .string P') (b' := .int .i64 room) HA5.out HQ5.out hgw
              have ho6 : ((w5.setCell ⟨gp, 0, none⟩ (.string P')).setCell ⟨gp, 1, none⟩ (.int .i64 room)).heap[go']? = some (.cells #[.int .i64 kind, .int .i64 N, .string A] 33 (0, 0)) := by
                rw [Below.heap_setCell _ _ _ _ (fun e => hgo e.symm), Below.heap_setCell _ _ _ _ (fun e => hgo e.symm)]
                exact HO5.out
              have hal : Below _ _ (((w5.setCell ⟨gp, 0, none⟩ (.string P')).setCell ⟨gp, 1, none⟩ (.int .i64 room)).alloc (.cells #[.string P', .int .i64 room] 31)) := (Below.refl _ _).alloc (Nat.le_refl _) _
              have HA6 := Lib.hid (ha6.on hal)
              have HQ6 := Lib.hid ((hal.block gp (blk_lt hq6)).trans hq6)
              have HO6 := Lib.hid ((hal.block go' (blk_lt ho6)).trans ho6)
              clear ha6 hq6 ho6 hal HA5 HQ5 HO5
              go_wp2_with fail
              generalize ((w5.setCell ⟨gp, 0, none⟩ (.string P')).setCell ⟨gp, 1, none⟩ (.int .i64 room)).alloc (.cells #[.string P', .int .i64 room] 31) = w6 at *
              clear q0 q1 f0 f1 o0 o1 o2 hq5 ho5
              refine (does_k HA6.out HST.out).mono ?_
              rintro e w7 ⟨rfl, ha7, hk7⟩
              have HQ7 := Lib.hid (hk7 gp _ _ _ (by decide) (by decide) HQ6.out)
              have HA7 := Lib.hid ha7
              clear ha7 hk7 HA6 HQ6 HO6 HST
              go_wp2_with fail
              go_roundw
              case rel => exact ⟨k + 1, P', by omega, by go_num, HA7, HQ7, HSP'⟩
              case measure => simp [intOf]; omega
            · have HSP5 := Lib.hid (show P.size ≤ 40000 by have := HSP.out; have := HS5.out; have := total_take_le os' k; have := HT'.out; omega)
              have hw1 : IntKind.i64.wrap ((S.size : Int) + 1) = (S.size : Int) + 1 := IntWalk.i64_in _ (by have := HS5.out; omega)
              have hw2 : IntKind.i64.wrap ((P.size : Int) + 1) = (P.size : Int) + 1 := IntWalk.i64_in _ (by have := HSP5.out; omega)
              have hbC := HA.out.below
              have HCK := Lib.hid (show ∀ w', Below wr.heap.size wr w' → w'.cell? ⟨gq, 0, none⟩ = some (.string S) ∧ w'.cell? ⟨gp, 0, none⟩ = some (.string P) ∧ Below wr.heap.size wr w' from
                fun w' hb => ⟨cell_of_row w' gq 0 _ _ _ (((seqB hbC hb).block gq (blk_lt HQ.out)).trans HQ.out), cell_of_row w' gp 0 _ _ _ ((hb.block gp (blk_lt HQ'.out)).trans HQ'.out), hb⟩)
              have HPR := Lib.hid (fun (w' : World) (hb : Below wr.heap.size wr w') => peek_b (HAR.out.on (seqB hbC hb)) (by rw [nums_length]; have := HS5.out; omega) ((S.size : Int) + 1) S (whole S))
              have HPC := Lib.hid (fun (w' : World) (hb : Below wr.heap.size wr w') => peek_b (HA.out.on hb) (by rw [nums_length]; have := HSP5.out; omega) ((P.size : Int) + 1) P (whole P))
              have HBB := Lib.hid (seqB HAR.out.below hbC)
              clear hbC
              go_wp2_with fail
              go_region_held (fun w' => w'.cell? ⟨gq, 0, none⟩ = some (.string S) ∧ w'.cell? ⟨gp, 0, none⟩ = some (.string P) ∧ Below wr.heap.size wr w')
                ((refine HCK.out _ ?_
                  go_split_ands
                  first
                    | with_reducible exact (Below.refl _ _).drew
                    | with_reducible assumption))
                (first
                  | (go_at_call 11; go_split_ands; (with_reducible refine Calls.mono (alive_any _) ?_); rintro e w' ⟨rfl, hb⟩; (have hb' := seqB (by assumption) hb); clear hb)
                  | (go_at_call 20; go_split_ands; (with_reducible refine Calls.mono (HPR.out _ (by assumption)) ?_); rintro e w' ⟨q, n, c, rfl, cv, hb⟩; (have hb' := seqB (by assumption) hb); clear hb)
                  | (go_at_call 20; go_split_ands; (with_reducible refine Calls.mono (HPC.out _ (by assumption)) ?_); rintro e w' ⟨q, n, c, rfl, cv, hb⟩; (have hb' := seqB (by assumption) hb); clear hb))
              go_split_ands
              go_wp2_with fail
              go_ret
              exact ⟨rfl, seqB HBB.out (by assumption)⟩
theorem walk (room : Int) (p p' : Option Addr) (m d m' d' : Nat) (os os' : List Call) (w : World) (hx : os.length = m) (hmd : m ≤ d) (hd : d ≤ 9223372036854775807) (hz : ∀ o ∈ os, (-9223372036854775808 ≤ o.1 ∧ o.1 ≤ 9223372036854775807) ∧ (-9223372036854775808 ≤ o.2.1 ∧ o.2.1 ≤ 9223372036854775807) ∧ o.2.2.size ≤ 140737488351232) (hj : OpsIn w p m os)
    (hx' : os'.length = m') (hmd' : m' ≤ d') (hd' : d' ≤ 9223372036854775807) (hz' : ∀ o ∈ os', (-9223372036854775808 ≤ o.1 ∧ o.1 ≤ 9223372036854775807) ∧ (-9223372036854775808 ≤ o.2.1 ∧ o.2.1 ≤ 9223372036854775807) ∧ o.2.2.size ≤ 140737488351232) (hj' : OpsIn w p' m' os') :
    Calls Try.prog 5 #[.int .i64 room, .slice p m d, .slice p' m' d'] w fun e w' => e = .returned (.bool true) ∧ Below w.heap.size w w' := by
  by_cases h : 0 ≤ room ∧ room ≤ 4096
  · exact walk_main room p p' m d m' d' os os' w h.1 h.2 hx hmd hd (fun o ho => (hz o ho).2.2) hj hx' hmd' hd' (fun o ho => (hz' o ho).2.2) hj'
  · exact walk_no room p p' m d m' d' h w
end Go.Proofs.Ytkjljnfhnkaocaa.ringCopies

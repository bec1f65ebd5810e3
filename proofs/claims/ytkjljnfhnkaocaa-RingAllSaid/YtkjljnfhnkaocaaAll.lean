/-
  The walk of chicanelaw05.RingAll: it returns true, whatever room and calls. Conditions: as each states.
-/
import Derived.Test.YtkjljnfhnkaocaaW13
namespace Go.Proofs.Ytkjljnfhnkaocaa.ringAll
open Go.RowKit

set_option maxRecDepth 100000 in
set_option maxHeartbeats 16000000 in
theorem walk (room : Int) (p : Option Addr) (m d : Nat) (os : List Call) (w : World) (hx : os.length = m) (hmd : m ≤ d) (hd : d ≤ 9223372036854775807) (hz : ∀ o ∈ os, (-9223372036854775808 ≤ o.1 ∧ o.1 ≤ 9223372036854775807) ∧ (-9223372036854775808 ≤ o.2.1 ∧ o.2.1 ≤ 9223372036854775807) ∧ o.2.2.size ≤ 140737488351232) (hj : OpsIn w p m os) :
    Calls Try.prog 3 #[.int .i64 room, .slice p m d] w fun e w' => e = .returned (.bool true) ∧ Below w.heap.size w w' := by
  have HF0 := Lib.hid (few_any p m d os w hx hmd hd (fun o ho => (hz o ho).2.2) hj)
  have HX := Lib.hid hx
  have HJ := Lib.hid hj
  clear hx hz hj
  go_enter Try.func3, Try.ntmps3
  go_wp2_with fail
  refine HF0.out.mono ?_
  rintro e w1 ⟨b, rfl, hf, hb1⟩
  have HF := Lib.hid hf
  have HB1 := Lib.hid hb1
  clear hf hb1 HF0
  cases b with
  | false =>
    clear HF
    go_wp2_with fail
    refine (alive_any _).mono ?_
    rintro e w5 ⟨rfl, hb5⟩
    have HB5 := Lib.hid (seqB HB1.out hb5)
    clear hb5
    go_wp2_with fail
    go_ret
    exact ⟨rfl, HB5.out⟩
  | true =>
    obtain ⟨hm, ht⟩ := HF.out rfl
    have HT := Lib.hid ht
    clear HF ht
    go_wp2_with fail
    by_cases h : 0 ≤ room ∧ room ≤ 4096
    · obtain ⟨h0, h1⟩ := h
      have dr : decide (0 ≤ room ∧ room ≤ 4096) = true := by simp; omega
      refine (new_any room h0 h1 _).mono ?_
      rintro e w2 ⟨rfl, hr, hb2, _⟩
      have HA := Lib.hid (show At w w1.heap.size w1.heap.size room [] w2 from ⟨none, hr, seqB HB1.out hb2, HB1.out.size⟩)
      clear hr hb2
      have HBG := Lib.hid HB1.out.size
      generalize w1.heap.size = g at *
      go_wp2_with fail
      refine (right_any room _).mono ?_
      rw [dr]
      rintro e w3 ⟨rfl, rfl⟩
      clear dr
      go_wp2_with fail
      have HA3 := Lib.hid (HA.out.on (w' := w2.alloc (.cells #[.string ⟨#[]⟩, .int .i64 room] 31)) ((Below.refl _ _).alloc (Nat.le_refl _) _))
      have HQ3 := Lib.hid (heap_alloc_new w2 (.cells #[.string ⟨#[]⟩, .int .i64 room] 31))
      have hgq := HA.out.below.size
      generalize w2.alloc (.cells #[.string ⟨#[]⟩, .int .i64 room] 31) = w3 at *
      generalize w2.heap.size = gq at *
      clear HA
      go_loopw [46] (fun i wr => ∃ (k : Nat) (S : ByteArray), k ≤ m ∧ i = .int .i64 k ∧ Hid (At w g g room (nums S) wr) ∧ Hid (wr.heap[gq]? = some (.cells #[.string S, .int .i64 room] 31 (0, 0))) ∧ Hid (S.size ≤ total (os.take k))) (fun i _ => m - (intOf i).toNat)
      case atStart => exact ⟨0, ⟨#[]⟩, by omega, rfl, HA3, HQ3, Lib.hid (Nat.zero_le _)⟩
      case round =>
        clear HA3 HQ3
        obtain ⟨k, S, hk, rfl, HA, HQ, HS⟩ := hrel
        by_cases hlt : k < m
        · obtain ⟨b, o, rfl, hc⟩ := ops_on HJ.out HA.out.below (by omega)
          obtain ⟨g0, g1, g2⟩ := hc k hlt
          have HTK := Lib.hid (total_step os k m HX.out hlt _ rfl)
          have HTL := Lib.hid (Nat.le_trans (total_take_le os (k + 1)) HT.out)
          generalize os.getD k noCall = op at *
          obtain ⟨kind, N, A⟩ := op
          simp only at g0 g1 g2 HTK
          rw [← Nat.add_assoc] at g1 g2
          have hbl : b < wr.heap.size := World.block_lt_of_cell? wr _ g0
          obtain ⟨S', n, T, hst⟩ := step_all S room kind N A h0 h1 (by have := HS.out; have := HTL.out; have := HTK.out; omega) (by have := HTL.out; have := HTK.out; omega)
          have HST := Lib.hid hst
          have HS' := Lib.hid (show S'.size ≤ total (os.take (k + 1)) by have := hst.size; have := HS.out; have := HTK.out; omega)
          have q0 : wr.cell? ⟨gq, 0, none⟩ = some (.string S) := cell_of_row wr gq 0 _ _ _ HQ.out
          have q1 : wr.cell? ⟨gq, 1, none⟩ = some (.int .i64 room) := cell_of_row wr gq 1 _ _ _ HQ.out
          have hql : gq < wr.heap.size := blk_lt HQ.out
          clear hc hst HTK
          go_wp2_with fail
          have hbw : Below wr.heap.size wr (wr.alloc (.cells #[.int .i64 kind, .int .i64 N, .string A] 33)) := (Below.refl _ _).alloc (Nat.le_refl _) _
          have HA4 := Lib.hid (HA.out.on hbw)
          have HQ4 := Lib.hid ((hbw.block gq hql).trans HQ.out)
          have HO4 := Lib.hid (heap_alloc_new wr (.cells #[.int .i64 kind, .int .i64 N, .string A] 33))
          generalize wr.alloc (.cells #[.int .i64 kind, .int .i64 N, .string A] 33) = w4 at *
          generalize wr.heap.size = go at *
          clear hbw HA HQ q0 q1 g0 g1 g2 hbl
          refine (HST.out.did _).mono ?_
          rintro e w5 ⟨rfl, hb5⟩
          have HA5 := Lib.hid (HA4.out.on hb5)
          have HQ5 := Lib.hid ((hb5.block gq (blk_lt HQ4.out)).trans HQ4.out)
          have HO5 := Lib.hid ((hb5.block go (blk_lt HO4.out)).trans HO4.out)
          clear hb5 HA4 HQ4 HO4
          have hq5 : gq < w5.heap.size := blk_lt HQ5.out
          have ho5 : go < w5.heap.size := blk_lt HO5.out
          have q0 : w5.cell? ⟨gq, 0, none⟩ = some (.string S) := cell_of_row w5 gq 0 _ _ _ HQ5.out
          have q1 : w5.cell? ⟨gq, 1, none⟩ = some (.int .i64 room) := cell_of_row w5 gq 1 _ _ _ HQ5.out
          have f0 : w5.frozen? ⟨gq, 0, none⟩ = false := frozen_at HQ5.out
          have f1 : w5.frozen? ⟨gq, 1, none⟩ = false := frozen_at HQ5.out
          have o0 : w5.cell? ⟨go, 0, none⟩ = some (.int .i64 kind) := cell_of_row w5 go 0 _ _ _ HO5.out
          have o1 : w5.cell? ⟨go, 1, none⟩ = some (.int .i64 N) := cell_of_row w5 go 1 _ _ _ HO5.out
          have o2 : w5.cell? ⟨go, 2, none⟩ = some (.string A) := cell_of_row w5 go 2 _ _ _ HO5.out
          have hgo : ¬ gq = go := by omega
          have hgw : w.heap.size ≤ gq := hgq
          obtain ⟨ha6, hq6⟩ := At.set_q (a' := .string S') (b' := .int .i64 room) HA5.out HQ5.out hgw
          have ho6 : ((w5.setCell ⟨gq, 0, none⟩ (.string S')).setCell ⟨gq, 1, none⟩ (.int .i64 room)).heap[go]? = some (.cells #[.int .i64 kind, .int .i64 N, .string A] 33 (0, 0)) := by
            rw [Below.heap_setCell _ _ _ _ (fun e => hgo e.symm), Below.heap_setCell _ _ _ _ (fun e => hgo e.symm)]
            exact HO5.out
          have hal : Below _ _ (((w5.setCell ⟨gq, 0, none⟩ (.string S')).setCell ⟨gq, 1, none⟩ (.int .i64 room)).alloc (.cells #[.string S', .int .i64 room] 31)) := (Below.refl _ _).alloc (Nat.le_refl _) _
          have HA6 := Lib.hid (ha6.on hal)
          have HQ6 := Lib.hid ((hal.block gq (blk_lt hq6)).trans hq6)
          have HO6 := Lib.hid ((hal.block go (blk_lt ho6)).trans ho6)
          clear ha6 hq6 ho6 hal HA5 HQ5 HO5
          go_wp2_with fail
          generalize ((w5.setCell ⟨gq, 0, none⟩ (.string S')).setCell ⟨gq, 1, none⟩ (.int .i64 room)).alloc (.cells #[.string S', .int .i64 room] 31) = w6 at *
          clear q0 q1 f0 f1 o0 o1 o2 hq5 ho5
          refine (does_k HA6.out HST.out).mono ?_
          rintro e w7 ⟨rfl, ha7, hk7⟩
          have HQ7 := Lib.hid (hk7 gq _ _ _ (by decide) (by decide) HQ6.out)
          have HA7 := Lib.hid ha7
          clear ha7 hk7 HA6 HQ6 HO6 HST
          go_wp2_with fail
          have hS5 : S'.size ≤ 20000 := by have := HS'.out; have := HTL.out; omega
          obtain ⟨F, hF⟩ : ∃ F, room.toNat - S'.size = F := ⟨_, rfl⟩
          have HFF := Lib.hid hF
          clear hF
          have hw1 : IntKind.i64.wrap ((S'.size : Int) + 1) = (S'.size : Int) + 1 := IntWalk.i64_in _ (by omega)
          have HCK := Lib.hid (show ∀ w', w'.heap[gq]? = some (.cells #[.string S', .int .i64 room] 31 (0, 0)) → w'.cell? ⟨gq, 0, none⟩ = some (.string S') ∧ w'.cell? ⟨gq, 1, none⟩ = some (.int .i64 room) from fun w' h => ⟨cell_of_row w' gq 0 _ _ _ h, cell_of_row w' gq 1 _ _ _ h⟩)
          have HQ8 := Lib.hid (show w7.drew.heap[gq]? = some (.cells #[.string S', .int .i64 room] 31 (0, 0)) from HQ7.out)
          have HA8 := Lib.hid (HA7.out.on (Below.refl _ _).drew)
          have hTP : strOfNums ((nums S').take (cut ((S'.size : Int) + 1) (nums S').length)) = S' := by
            rw [nums_length, cut_big (by omega), ← nums_length, List.take_length, str_nums]
          have HTP := Lib.hid hTP.symm
          clear hTP
          go_region_held (fun w' => w'.cell? ⟨gq, 0, none⟩ = some (.string S') ∧ w'.cell? ⟨gq, 1, none⟩ = some (.int .i64 room))
            (first
              | exact HCK.out _ HQ8.out
              | assumption)
            (first
              | (go_at_call 16; refine (len_k HA8.out S'.size (nums_length S')).mono ?_; rintro e w9 ⟨rfl, ha9, hk9⟩; (have HA9 := Lib.hid ha9); (have HQ9 := Lib.hid (hk9 gq _ _ _ (by decide) (by decide) HQ8.out)); (have hc9 := HCK.out _ HQ9.out); clear ha9 hk9)
              | (go_at_call 17; refine (room_at HA9.out).mono ?_; rintro e w10 ⟨rfl, rfl⟩)
              | (go_at_call 18; refine (free_k HA9.out F (by rw [nums_length]; exact HFF.out)).mono ?_; rintro e w11 ⟨rfl, ha11, hk11⟩; (have HA11 := Lib.hid ha11); (have HQ11 := Lib.hid (hk11 gq _ _ _ (by decide) (by decide) HQ9.out)); (have hc11 := HCK.out _ HQ11.out); clear ha11 hk11)
              | (go_at_call 19; refine (rfree_any S' room h0 h1 (by omega) _).mono ?_; rw [HFF.out]; rintro e w12 ⟨rfl, hb12⟩; (have HA12 := Lib.hid (HA11.out.on hb12)); (have HQ12 := Lib.hid ((hb12.block gq (blk_lt HQ11.out)).trans HQ11.out)); (have hc12 := HCK.out _ HQ12.out); clear hb12)
              | (go_at_call 20; refine (peek_k HA12.out (by rw [nums_length]; omega) _ S' HTP.out).mono ?_; rintro e w13 ⟨q13, n13, c13, rfl, cv13, ha13, hk13⟩; (have HA13 := Lib.hid ha13); (have HQ13 := Lib.hid (hk13 gq _ _ _ (by decide) (by decide) HQ12.out)); (have hc13 := HCK.out _ HQ13.out); clear ha13 hk13))
          go_wp2_with fail
          go_roundw
          case rel => exact ⟨k + 1, S', by omega, by go_num, HA13, HQ13, HS'⟩
          case measure => simp [intOf]; omega
        · go_wp2_with fail
          refine (alive_any _).mono ?_
          rintro e w5 ⟨rfl, hb5⟩
          have HB5 := Lib.hid (HA.out.on hb5).below
          clear hb5
          go_wp2_with fail
          go_ret
          exact ⟨rfl, HB5.out⟩
    · have dr : decide (0 ≤ room ∧ room ≤ 4096) = false := by simpa using h
      refine (new_no room h _).mono ?_
      rintro e w2 ⟨rfl, rfl⟩
      go_wp2_with fail
      refine (right_any room _).mono ?_
      rw [dr]
      rintro e w3 ⟨rfl, rfl⟩
      clear dr
      go_wp2_with fail
      refine (alive_any _).mono ?_
      rintro e w5 ⟨rfl, hb5⟩
      have HB5 := Lib.hid (seqB HB1.out hb5)
      clear hb5
      go_wp2_with fail
      go_ret
      exact ⟨rfl, HB5.out⟩
end Go.Proofs.Ytkjljnfhnkaocaa.ringAll

/-
  Contracts: what the program's own Check and Right answer. Conditions: the name's length.
-/
import Derived.Test.YtmghkcjljnlocaaGreatDoorXW4
import Derived.Test.YtmghkcjljnlocaaGreatDoorXT
namespace Go.Proofs.YtmghkcjljnlocaaGreatDoor.gx
open Go.RowKit

theorem oftB {o : Int} : (decide (o < 0) || decide (100 < o)) = decide (o < 0 ∨ 100 < o) := by rw [Bool.eq_iff_iff]; simp
set_option maxRecDepth 100000 in
set_option maxHeartbeats 8000000 in
theorem check_any (s : ByteArray) (hs : s.size ≤ maxLen) (k : Int) (up : Bool) (o a b : Int) (w : World) : Calls Tryz.prog 40 #[.agg #[.string s, .int .i64 k, .bool up, .int .i64 o, .int .i64 a, .int .i64 b]] w (Chk s k o a b w) := by
  unfold Chk
  have HB := Lib.hid (show Below w.heap.size w (w.alloc (.cells #[.string s, .int .i64 k, .bool up, .int .i64 o, .int .i64 a, .int .i64 b] 24)) from (Below.refl _ _).alloc (Nat.le_refl _) _)
  have HN := Lib.hid (fun W => name_any s W hs)
  obtain ⟨N, hN⟩ : ∃ N, nameB s = N := ⟨_, rfl⟩
  have HV := Lib.hid (show checkB s k o a b = if N = false then 90 else if k < 1 ∨ 7 < k then 91 else if o < 0 ∨ 100 < o ∨ partsB k a b = false then 92 else 0 by unfold checkB; rw [hN])
  rw [hN] at HN
  clear hN hs
  have HK := Lib.hid (heap_alloc_new w (.cells #[.string s, .int .i64 k, .bool up, .int .i64 o, .int .i64 a, .int .i64 b] 24))
  have HF := Lib.hid (show ∀ (c : Int), checkB s k o a b = c → Ending.returned (.int .i64 c) = .returned (.int .i64 (checkB s k o a b)) from fun c h => by rw [h])
  cases N with
  | false =>
    have HV1 := Lib.hid (HV.out.trans (if_pos rfl))
    go_enter Tryz.func40, Tryz.ntmps40
    go_wp2_with fail
    refine (HN.out _).mono ?_
    rintro e w2 ⟨rfl, hb⟩
    have HE := Lib.hid (seqB HB.out hb)
    clear hb
    go_wp2_with fail
    go_ret
    exact ⟨HF.out _ HV1.out, HE.out⟩
  | true =>
    by_cases hk : k < 1 ∨ 7 < k
    · have HV1 := Lib.hid (HV.out.trans (by rw [if_neg (by simp), if_pos hk] : _ = (91 : Int)))
      have HR := Lib.hid (fun W => rules_none k hk W)
      clear hk
      go_enter Tryz.func40, Tryz.ntmps40
      go_wp2_with fail
      generalize w.alloc (.cells #[.string s, .int .i64 k, .bool up, .int .i64 o, .int .i64 a, .int .i64 b] 24) = w1 at *
      refine (HN.out _).mono ?_
      rintro e w2 ⟨rfl, hb⟩
      have HB2 := Lib.hid (seqB HB.out hb)
      obtain ⟨x0, x1, x2, x3, x4, x5⟩ := box6 HK.out hb
      clear hb
      go_wp2_with fail
      have HCL := Lib.hid (show w2.drew.cell? ⟨w.heap.size, 1, none⟩ = some (.int .i64 k) from x1)
      have y1 : w2.drew.cell? ⟨w.heap.size, 1, none⟩ = some (.int .i64 k) := x1
      go_region_held (fun W => W.cell? ⟨w.heap.size, 1, none⟩ = some (.int .i64 k))
        (first
          | exact HCL.out
          | with_reducible assumption)
        (first
          | (go_at_call 75; (with_reducible refine Calls.mono (HR.out _) ?_); rintro e w3 ⟨m, rfl, hb, hl⟩; have HH6 := Lib.hid hb; have y1 := (hb.cell (World.block_lt_of_cell? _ _ y1)).trans y1))
      have HE := Lib.hid (seqB HB2.out (seqB (Below.refl _ w2).drew HH6.out))
      go_wp2_with fail
      go_ret
      exact ⟨HF.out _ HV1.out, HE.out⟩
    · have HV1 := Lib.hid (HV.out.trans (by rw [if_neg (by simp), if_neg hk] : _ = if o < 0 ∨ 100 < o ∨ partsB k a b = false then (92 : Int) else 0))
      by_cases h1 : k = 1
      · subst h1
        have HR := Lib.hid (fun W => rules_one W)
        have HP := Lib.hid (fun W => rule1_any a b W)
        rw [parts1] at HP
        clear hk HV
        go_enter Tryz.func40, Tryz.ntmps40
        go_wp2_with fail
        generalize w.alloc (.cells #[.string s, .int .i64 1, .bool up, .int .i64 o, .int .i64 a, .int .i64 b] 24) = w1 at *
        refine (HN.out _).mono ?_
        rintro e w2 ⟨rfl, hb⟩
        have HB2 := Lib.hid (seqB HB.out hb)
        obtain ⟨x0, x1, x2, x3, x4, x5⟩ := box6 HK.out hb
        have HK2 := Lib.hid ((hb.block _ (blk_lt HK.out)).trans HK.out)
        clear hb
        go_wp2_with fail
        have HCL := Lib.hid (show w2.drew.cell? ⟨w.heap.size, 1, none⟩ = some (.int .i64 1) from x1)
        have y1 : w2.drew.cell? ⟨w.heap.size, 1, none⟩ = some (.int .i64 1) := x1
        go_region_held (fun W => W.cell? ⟨w.heap.size, 1, none⟩ = some (.int .i64 1))
          (first
            | exact HCL.out
            | with_reducible assumption)
          (first
            | (go_at_call 75; (with_reducible refine Calls.mono (HR.out _) ?_); rintro e w3 ⟨m, rfl, hb, hl⟩; have HH6 := Lib.hid hb; have y1 := (hb.cell (World.block_lt_of_cell? _ _ y1)).trans y1))
        have HE := Lib.hid (seqB HB2.out (seqB (Below.refl _ w2).drew HH6.out))
        have HK3 := Lib.hid ((HH6.out.block _ (blk_lt (w := w2.drew) HK2.out)).trans HK2.out)
        obtain ⟨z0, z1, z2, z3, z4, z5⟩ := box6 HK3.out (Below.refl _ _)
        clear y1
        by_cases o1 : o < 0
        · have HV2 := Lib.hid (HV1.out.trans (if_pos (Or.inl o1)))
          have o2 : decide (o < 0) = true := decide_eq_true o1
          go_wp2_with fail
          go_ret
          exact ⟨HF.out _ HV2.out, HE.out⟩
        have o2 : decide (o < 0) = false := decide_eq_false o1
        by_cases o3 : 100 < o
        · have HV2 := Lib.hid (HV1.out.trans (if_pos (Or.inr (Or.inl o3))))
          have o4 : decide (100 < o) = true := decide_eq_true o3
          go_wp2_with fail
          go_ret
          exact ⟨HF.out _ HV2.out, HE.out⟩
        have o4 : decide (100 < o) = false := decide_eq_false o3
        cases hP : partsB 1 a b with
        | false =>
          have HV2 := Lib.hid (HV1.out.trans (if_pos (Or.inr (Or.inr hP))))
          rw [hP] at HP
          go_wp2_with fail
          refine (HP.out _).mono ?_
          rintro e w4 ⟨rfl, hb4⟩
          have HE4 := Lib.hid (seqB HE.out hb4)
          clear hb4
          go_wp2_with fail
          go_ret
          exact ⟨HF.out _ HV2.out, HE4.out⟩
        | true =>
          have HV2 := Lib.hid (HV1.out.trans (if_neg (fun h => by rcases h with h | h | h; exact o1 h; exact o3 h; rw [hP] at h; cases h)))
          rw [hP] at HP
          go_wp2_with fail
          refine (HP.out _).mono ?_
          rintro e w4 ⟨rfl, hb4⟩
          have HE4 := Lib.hid (seqB HE.out hb4)
          clear hb4
          go_wp2_with fail
          go_ret
          exact ⟨HF.out _ HV2.out, HE4.out⟩
      · have HR := Lib.hid (fun W => rules_at k (by omega) (by omega) W)
        clear hk HV h1
        go_enter Tryz.func40, Tryz.ntmps40
        go_wp2_with fail
        generalize w.alloc (.cells #[.string s, .int .i64 k, .bool up, .int .i64 o, .int .i64 a, .int .i64 b] 24) = w1 at *
        refine (HN.out _).mono ?_
        rintro e w2 ⟨rfl, hb⟩
        have HB2 := Lib.hid (seqB HB.out hb)
        obtain ⟨x0, x1, x2, x3, x4, x5⟩ := box6 HK.out hb
        have HK2 := Lib.hid ((hb.block _ (blk_lt HK.out)).trans HK.out)
        clear hb
        go_wp2_with fail
        have HCL := Lib.hid (show w2.drew.cell? ⟨w.heap.size, 1, none⟩ = some (.int .i64 k) from x1)
        have y1 : w2.drew.cell? ⟨w.heap.size, 1, none⟩ = some (.int .i64 k) := x1
        go_region_held (fun W => W.cell? ⟨w.heap.size, 1, none⟩ = some (.int .i64 k))
          (first
            | exact HCL.out
            | with_reducible assumption)
          (first
            | (go_at_call 75; (with_reducible refine Calls.mono (HR.out _) ?_); rintro e w3 ⟨m, f, g, rfl, hb, hl, hc⟩; have HH6 := Lib.hid hb; have y1 := (hb.cell (World.block_lt_of_cell? _ _ y1)).trans y1))
        have HE := Lib.hid (seqB HB2.out (seqB (Below.refl _ w2).drew HH6.out))
        have HK3 := Lib.hid ((HH6.out.block _ (blk_lt (w := w2.drew) HK2.out)).trans HK2.out)
        obtain ⟨z0, z1, z2, z3, z4, z5⟩ := box6 HK3.out (Below.refl _ _)
        clear y1
        by_cases o1 : o < 0
        · have HV2 := Lib.hid (HV1.out.trans (if_pos (Or.inl o1)))
          have o2 : decide (o < 0) = true := decide_eq_true o1
          go_wp2_with fail
          go_ret
          exact ⟨HF.out _ HV2.out, HE.out⟩
        have o2 : decide (o < 0) = false := decide_eq_false o1
        by_cases o3 : 100 < o
        · have HV2 := Lib.hid (HV1.out.trans (if_pos (Or.inr (Or.inl o3))))
          have o4 : decide (100 < o) = true := decide_eq_true o3
          go_wp2_with fail
          go_ret
          exact ⟨HF.out _ HV2.out, HE.out⟩
        have o4 : decide (100 < o) = false := decide_eq_false o3
        have HP := Lib.hid (hc a b)
        clear hc
        cases hP : partsB k a b with
        | false =>
          have HV2 := Lib.hid (HV1.out.trans (if_pos (Or.inr (Or.inr hP))))
          rw [hP] at HP
          go_wp2_with fail
          refine HP.out.mono ?_
          rintro e w4 ⟨rfl, rfl⟩
          go_wp2_with fail
          go_ret
          exact ⟨HF.out _ HV2.out, HE.out⟩
        | true =>
          have HV2 := Lib.hid (HV1.out.trans (if_neg (fun h => by rcases h with h | h | h; exact o1 h; exact o3 h; rw [hP] at h; cases h)))
          rw [hP] at HP
          go_wp2_with fail
          refine HP.out.mono ?_
          rintro e w4 ⟨rfl, rfl⟩
          go_wp2_with fail
          go_ret
          exact ⟨HF.out _ HV2.out, HE.out⟩
end Go.Proofs.YtmghkcjljnlocaaGreatDoor.gx

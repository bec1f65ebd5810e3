/-
  The walk of chicanelaw08.BucketSteps: it returns true, whatever bucket. Conditions: none.
-/
import Derived.Test.YtidklcjacejkaaaWhen
import Derived.Deep.RegionHeld
namespace Go.Proofs.Ytidklcjacejkaaa.bucketSteps
open Go.RowKit

set_option maxRecDepth 100000 in
set_option maxHeartbeats 4000000 in
theorem bad (r u l t mid now : Int) (w : World) (h : rightB r u l t = false) :
    Calls Try.prog 5 #[.agg #[.int .i64 r, .int .i64 u, .int .i64 l, .int .i64 t], .int .i64 mid, .int .i64 now] w fun e w' => e = .returned (.bool true) ∧ Below w.heap.size w w' := by
  have HX := Lib.hid (bucketWhen.start w r u l t)
  have HR := Lib.hid (fun W => right_b r u l t W)
  rw [h] at HR
  clear h
  go_enter Try.func5, Try.ntmps5
  go_wp2_with fail
  generalize (w.alloc (.cells #[.int .i64 r, .int .i64 u, .int .i64 l, .int .i64 t] 23)).alloc (.cells #[.int .i64 r, .int .i64 u, .int .i64 l, .int .i64 t] 24) = w1 at *
  refine (HR.out _).mono ?_
  rintro e w2 ⟨rfl, hb⟩
  have HX2 := Lib.hid (HX.out.on hb)
  clear hb HX
  go_wp2_with fail
  refine (alive_any _).mono ?_
  rintro e w3 ⟨rfl, hb⟩
  have HE := Lib.hid (HX2.out.on hb).2.2
  clear hb HX2
  go_wp2_with fail
  go_ret
  exact ⟨rfl, HE.out⟩
set_option maxRecDepth 100000 in
set_option maxHeartbeats 4000000 in
theorem back (r u l t mid now : Int) (w : World) (h : rightB r u l t = true) (hm : now < mid) :
    Calls Try.prog 5 #[.agg #[.int .i64 r, .int .i64 u, .int .i64 l, .int .i64 t], .int .i64 mid, .int .i64 now] w fun e w' => e = .returned (.bool true) ∧ Below w.heap.size w w' := by
  have HX := Lib.hid (bucketWhen.start w r u l t)
  have HR := Lib.hid (fun W => right_b r u l t W)
  rw [h] at HR
  have d1 : decide (now < mid) = true := by simpa using hm
  clear h
  go_enter Try.func5, Try.ntmps5
  go_wp2_with fail
  generalize (w.alloc (.cells #[.int .i64 r, .int .i64 u, .int .i64 l, .int .i64 t] 23)).alloc (.cells #[.int .i64 r, .int .i64 u, .int .i64 l, .int .i64 t] 24) = w1 at *
  refine (HR.out _).mono ?_
  rintro e w2 ⟨rfl, hb⟩
  have HX2 := Lib.hid (HX.out.on hb)
  clear hb HX
  go_wp2_with fail
  refine (alive_any _).mono ?_
  rintro e w3 ⟨rfl, hb⟩
  have HE := Lib.hid (HX2.out.on hb).2.2
  clear hb HX2
  go_wp2_with fail
  go_ret
  exact ⟨rfl, HE.out⟩
set_option maxRecDepth 100000 in
set_option maxHeartbeats 16000000 in
theorem good (r u l t mid now : Int) (w : World) (h : rightB r u l t = true) (hm : mid ≤ now) :
    Calls Try.prog 5 #[.agg #[.int .i64 r, .int .i64 u, .int .i64 l, .int .i64 t], .int .i64 mid, .int .i64 now] w fun e w' => e = .returned (.bool true) ∧ Below w.heap.size w w' := by
  have HX := Lib.hid (bucketWhen.start w r u l t)
  have HR := Lib.hid (fun W => right_b r u l t W)
  rw [h] at HR
  have d1 : decide (now < mid) = false := by simpa using hm
  obtain ⟨L1, hL1⟩ : ∃ L, fillL r u l t mid = L := ⟨_, rfl⟩
  obtain ⟨T1, hT1⟩ : ∃ T, fillT r u l t mid = T := ⟨_, rfl⟩
  obtain ⟨L2, hL2⟩ : ∃ L, fillL r u l t now = L := ⟨_, rfl⟩
  obtain ⟨T2, hT2⟩ : ∃ T, fillT r u l t now = T := ⟨_, rfl⟩
  have hs := fill_steps h hm
  have hb := fill_back h hm
  have h2 := fill_right h now
  rw [hL1, hT1, hL2, hT2] at hs
  rw [hL2, hT2] at hb h2
  have HF1 := Lib.hid (fun W => fill_b r u l t mid W)
  have HF2 := Lib.hid (fun W => fill_b r u l t now W)
  have HF3 := Lib.hid (fun W => fill_b r u L1 T1 now W)
  have HF4 := Lib.hid (fun W => fill_b r u L2 T2 mid W)
  have HR2 := Lib.hid (fun W => right_b r u L2 T2 W)
  rw [hL1, hT1] at HF1
  rw [hL2, hT2] at HF2
  rw [hs.1, hs.2] at HF3
  rw [hb.1, hb.2] at HF4
  rw [h2] at HR2
  clear h hm hL1 hT1 hL2 hT2 hs hb h2
  go_enter Try.func5, Try.ntmps5
  go_wp2_with fail
  generalize (w.alloc (.cells #[.int .i64 r, .int .i64 u, .int .i64 l, .int .i64 t] 23)).alloc (.cells #[.int .i64 r, .int .i64 u, .int .i64 l, .int .i64 t] 24) = w1 at *
  generalize w.heap.size + 1 = g1 at *
  refine (HR.out _).mono ?_
  rintro e w2 ⟨rfl, hb⟩
  have HX2 := Lib.hid (HX.out.on hb)
  clear hb HX
  have HCK := Lib.hid (show ∀ W, Below w2.heap.size w2 W → (W.cell? ⟨g1, 0, none⟩ = some (.int .i64 r) ∧ W.cell? ⟨g1, 1, none⟩ = some (.int .i64 u) ∧ W.cell? ⟨g1, 2, none⟩ = some (.int .i64 l) ∧ W.cell? ⟨g1, 3, none⟩ = some (.int .i64 t)) ∧ Below w2.heap.size w2 W from fun W hb => ⟨(HX2.out.on hb).cells, hb⟩)
  go_wp2_with fail
  go_region_held (fun W => (W.cell? ⟨g1, 0, none⟩ = some (.int .i64 r) ∧ W.cell? ⟨g1, 1, none⟩ = some (.int .i64 u) ∧ W.cell? ⟨g1, 2, none⟩ = some (.int .i64 l) ∧ W.cell? ⟨g1, 3, none⟩ = some (.int .i64 t)) ∧ Below w2.heap.size w2 W)
    ((refine HCK.out _ ?_
      go_split_ands
      first
        | with_reducible exact (Below.refl _ _).drew
        | with_reducible assumption))
    (first
      | (go_at_call 13; go_split_ands; (with_reducible refine Calls.mono (alive_any _) ?_); rintro e w3 ⟨rfl, hb⟩; (have hb3 := seqB (by assumption) hb); clear hb)
      | (go_at_call 14; go_split_ands; (with_reducible refine Calls.mono (HR2.out _) ?_); rintro e w3 ⟨rfl, hb⟩; (have hb3 := seqB (by assumption) hb); (have HBE := Lib.hid hb3); clear hb)
      | (go_at_call 16; go_split_ands; (with_reducible refine Calls.mono (HF1.out _) ?_); rintro e w3 ⟨rfl, hb⟩; (have hb3 := seqB (by assumption) hb); clear hb)
      | (go_at_call 16; go_split_ands; (with_reducible refine Calls.mono (HF2.out _) ?_); rintro e w3 ⟨rfl, hb⟩; (have hb3 := seqB (by assumption) hb); clear hb)
      | (go_at_call 16; go_split_ands; (with_reducible refine Calls.mono (HF3.out _) ?_); rintro e w3 ⟨rfl, hb⟩; (have hb3 := seqB (by assumption) hb); clear hb)
      | (go_at_call 16; go_split_ands; (with_reducible refine Calls.mono (HF4.out _) ?_); rintro e w3 ⟨rfl, hb⟩; (have hb3 := seqB (by assumption) hb); clear hb))
  go_wp2_with fail
  go_ret
  exact ⟨rfl, seqB HX2.out.2.2 HBE.out⟩
theorem walk (r u l t mid now : Int) (w : World) :
    Calls Try.prog 5 #[.agg #[.int .i64 r, .int .i64 u, .int .i64 l, .int .i64 t], .int .i64 mid, .int .i64 now] w fun e w' => e = .returned (.bool true) ∧ Below w.heap.size w w' := by
  cases h : rightB r u l t with
  | false => exact bad r u l t mid now w h
  | true =>
    rcases Int.lt_or_le now mid with hm | hm
    · exact back r u l t mid now w h hm
    · exact good r u l t mid now w h hm
end Go.Proofs.Ytidklcjacejkaaa.bucketSteps

/-
  The walk of chicanelaw02.DiceTaken: it returns true, whatever state and numbers. Conditions: none.
-/
import Derived.Test.YtlfecceleoiafaaW8
import Derived.ProofKit
import Derived.OpenShut
namespace Go.Proofs.Ytlfecceleoiafaa.diceTaken
open Go.RowKit

set_option maxHeartbeats 1600000 in
theorem walk (a0 a1 a2 : Int) (_w0 : (Lit.int .u64 a0).wf = true) (w1 : (Lit.int .i64 a1).wf = true) (_w2 : (Lit.int .i64 a2).wf = true) (w : World) :
    Calls Try.prog 6 #[.int .u64 a0, .int .i64 a1, .int .i64 a2] w fun e w' => e = .returned (.bool true) ∧ Below w.heap.size w w' := by
  have hr : a1 < 9223372036854775808 := by simp [Lit.wf, IntKind.min, IntKind.max, IntKind.signed, IntKind.bits] at w1; omega
  clear _w0 w1 _w2
  by_cases h : a1 < 1
  · have c0 : decide (a1 < 1) = true := by simp; omega
    go_enter Try.func6, Try.ntmps6
    go_wp2_with fail
    refine (below_none _ _ h _).mono ?_
    rintro e w1 ⟨rfl, rfl⟩
    go_wp2_with fail
    refine (rbelow_none _ _ h _).mono ?_
    rintro e w1 ⟨rfl, hb1⟩
    have HB1 := Lib.hid hb1
    clear hb1
    clear h hr
    go_wp2_with fail
    refine (range_any _ _ _ _).mono ?_
    rintro e w2 ⟨rfl, rfl⟩
    go_wp2_with fail
    refine (rrange_any _ _ _ _).mono ?_
    rintro e w2 ⟨rfl, hb1⟩
    have HB2 := Lib.hid hb1
    clear hb1
    go_wp2_with fail
    refine (percent_any _ _ _).mono ?_
    rintro e w3 ⟨rfl, rfl⟩
    go_wp2_with fail
    refine (rpercent_any _ _ _).mono ?_
    rintro e w3 ⟨rfl, hb1⟩
    have HB3 := Lib.hid hb1
    clear hb1
    go_wp2_with fail
    refine (alive_any _).mono ?_
    rintro e w4 ⟨rfl, hb1⟩
    have HB4 := Lib.hid hb1
    clear hb1
    go_wp2_with fail
    go_ret
    exact ⟨rfl, seqB HB1.out (seqB HB2.out (seqB HB3.out HB4.out))⟩
  · have c0 : decide (a1 < 1) = false := by simp; omega
    have ht := takeZ_range a0 a1 (by omega)
    have c1 : decide (0 ≤ takeZ a0 a1) = true := by simp; omega
    have c2 : decide (takeZ a0 a1 < a1) = true := by simp; omega
    go_enter Try.func6, Try.ntmps6
    go_wp2_with fail
    refine (below_any _ _ (by omega) hr _).mono ?_
    rintro e w1 ⟨rfl, rfl⟩
    go_wp2_with fail
    refine (rbelow_any _ _ (by omega) hr _).mono ?_
    rintro e w1 ⟨rfl, hb1⟩
    have HB1 := Lib.hid hb1
    clear hb1
    clear h hr
    go_wp2_with fail
    refine (range_any _ _ _ _).mono ?_
    rintro e w2 ⟨rfl, rfl⟩
    go_wp2_with fail
    refine (rrange_any _ _ _ _).mono ?_
    rintro e w2 ⟨rfl, hb1⟩
    have HB2 := Lib.hid hb1
    clear hb1
    go_wp2_with fail
    refine (percent_any _ _ _).mono ?_
    rintro e w3 ⟨rfl, rfl⟩
    go_wp2_with fail
    refine (rpercent_any _ _ _).mono ?_
    rintro e w3 ⟨rfl, hb1⟩
    have HB3 := Lib.hid hb1
    clear hb1
    go_wp2_with fail
    refine (alive_any _).mono ?_
    rintro e w4 ⟨rfl, hb1⟩
    have HB4 := Lib.hid hb1
    clear hb1
    go_wp2_with fail
    go_ret
    exact ⟨rfl, seqB HB1.out (seqB HB2.out (seqB HB3.out HB4.out))⟩
end Go.Proofs.Ytlfecceleoiafaa.diceTaken

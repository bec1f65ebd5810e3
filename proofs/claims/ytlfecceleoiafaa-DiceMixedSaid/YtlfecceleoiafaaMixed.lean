/-
  The walk of chicanelaw02.DiceMixed: it returns true, whatever two numbers. Conditions: none.
-/
import Derived.Test.YtlfecceleoiafaaMixM
import Derived.ProofKit
import Derived.OpenShut
namespace Go.Proofs.Ytlfecceleoiafaa.diceMixed
open Go.RowKit

set_option maxHeartbeats 800000 in
theorem walk (a0 a1 : Int) (w0 : (Lit.int .u64 a0).wf = true) (w1 : (Lit.int .u64 a1).wf = true) (w : World) :
    Calls Try.prog 7 #[.int .u64 a0, .int .u64 a1] w fun e w' => e = .returned (.bool true) ∧ Below w.heap.size w w' := by
  have hr : 0 ≤ a0 ∧ a0 < 18446744073709551616 := by simp [Lit.wf, IntKind.min, IntKind.max, IntKind.signed, IntKind.bits] at w0; omega
  have hs : 0 ≤ a1 ∧ a1 < 18446744073709551616 := by simp [Lit.wf, IntKind.min, IntKind.max, IntKind.signed, IntKind.bits] at w1; omega
  have hm : (mixZ a0 == mixZ a1) = (a0 == a1) := by
    by_cases e : a0 = a1
    · rw [e, beq_self_eq_true, beq_self_eq_true]
    · have : mixZ a0 ≠ mixZ a1 := fun h => e (mixZ_inj a0 a1 hr hs h)
      rw [beq_eq_false_iff_ne.mpr this, beq_eq_false_iff_ne.mpr e]
  clear w0 w1 hr hs
  go_enter Try.func7, Try.ntmps7
  go_wp2_with fail
  refine (alive_any _).mono ?_
  rintro e w1 ⟨rfl, hb1⟩
  have HB1 := Lib.hid hb1
  clear hb1
  go_wp2_with fail
  refine (mix_any _ _).mono ?_
  rintro e w2 ⟨rfl, rfl⟩
  go_wp2_with fail
  refine (mix_any _ _).mono ?_
  rintro e w2 ⟨rfl, rfl⟩
  go_wp2_with fail
  go_ret
  exact ⟨by simp, HB1.out⟩
end Go.Proofs.Ytlfecceleoiafaa.diceMixed

/-
  The walk of chicanelaw02.DiceNexts: it returns true, whatever the state. Conditions: none.
-/
import Derived.Test.YtlfecceleoiafaaW8
import Derived.ProofKit
import Derived.OpenShut
namespace Go.Proofs.Ytlfecceleoiafaa.diceNexts
open Go.RowKit

set_option maxHeartbeats 800000 in
theorem walk (a0 : Int) (w0 : (Lit.int .u64 a0).wf = true) (w : World) :
    Calls Try.prog 3 #[.int .u64 a0] w fun e w' => e = .returned (.bool true) ∧ Below w.heap.size w w' := by
  have hr : 0 ≤ a0 ∧ a0 < 18446744073709551616 := by simp [Lit.wf, IntKind.min, IntKind.max, IntKind.signed, IntKind.bits] at w0; omega
  clear w0
  go_enter Try.func3, Try.ntmps3
  go_wp2_with fail
  refine (next_any _ _).mono ?_
  rintro e w1 ⟨rfl, rfl⟩
  go_wp2_with fail
  refine (alive_any _).mono ?_
  rintro e w1 ⟨rfl, hb1⟩
  have HB1 := Lib.hid hb1
  clear hb1
  go_wp2_with fail
  refine (value_one _ _).mono ?_
  rintro e w2 ⟨rfl, hb1⟩
  have HB2 := Lib.hid hb1
  clear hb1
  go_wp2_with fail
  refine (rstep_any _ _).mono ?_
  rintro e w3 ⟨rfl, rfl⟩
  go_wp2_with fail
  refine (mix_any _ _).mono ?_
  rintro e w3 ⟨rfl, rfl⟩
  go_wp2_with fail
  refine (rmix_any _ hr.1 hr.2 _).mono ?_
  rintro e w3 ⟨rfl, hb1⟩
  have HB3 := Lib.hid hb1
  clear hb1
  go_wp2_with fail
  go_ret
  exact ⟨rfl, seqB HB1.out (seqB HB2.out HB3.out)⟩
end Go.Proofs.Ytlfecceleoiafaa.diceNexts

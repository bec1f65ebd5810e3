/-
  The walk of chicanelaw02.DiceOften: it returns true, whatever state and numbers. Conditions: none.
-/
import Derived.Test.YtlfecceleoiafaaW8
import Derived.ProofKit
import Derived.OpenShut
namespace Go.Proofs.Ytlfecceleoiafaa.diceOften
open Go.RowKit

set_option maxHeartbeats 800000 in
theorem walk (a0 a1 a2 : Int) (_w0 : (Lit.int .u64 a0).wf = true) (_w1 : (Lit.int .i64 a1).wf = true) (_w2 : (Lit.int .i64 a2).wf = true) (w : World) :
    Calls Try.prog 8 #[.int .u64 a0, .int .i64 a1, .int .i64 a2] w fun e w' => e = .returned (.bool true) ∧ Below w.heap.size w w' := by
  clear _w0 _w1 _w2
  by_cases h : a2 < a1
  · have c0 : decide (a2 < a1) = true := by simp [h]
    clear h
    go_enter Try.func8, Try.ntmps8
    go_wp2_with fail
    refine (alive_any _).mono ?_
    rintro e w1 ⟨rfl, hb1⟩
    have HB1 := Lib.hid hb1
    clear hb1
    go_wp2_with fail
    go_ret
    exact ⟨rfl, HB1.out⟩
  · have c0 : decide (a2 < a1) = false := by simp; omega
    have ht := takeZ_range a0 100 (by omega)
    have d0 : decide (takeZ a0 100 < 0) = false := by simp; omega
    have d1 : decide (takeZ a0 100 < 100) = true := by simp; omega
    by_cases k : takeZ a0 100 < a1
    · have d2 : decide (takeZ a0 100 < a1) = true := by simp [k]
      have d3 : decide (takeZ a0 100 < a2) = true := by simp; omega
      clear h k ht
      go_enter Try.func8, Try.ntmps8
      go_wp2_with (first
        | (go_at_call 23; refine (percent_any _ _ _).mono ?_; rintro e w1 ⟨rfl, rfl⟩)
        | (go_at_call 11; refine (alive_any _).mono ?_; rintro e w1 ⟨rfl, hb1⟩; have HB1 := Lib.hid hb1; clear hb1))
      go_ret
      exact ⟨rfl, HB1.out⟩
    · have d2 : decide (takeZ a0 100 < a1) = false := by simp; omega
      clear h k ht
      go_enter Try.func8, Try.ntmps8
      go_wp2_with (first
        | (go_at_call 23; refine (percent_any _ _ _).mono ?_; rintro e w1 ⟨rfl, rfl⟩)
        | (go_at_call 11; refine (alive_any _).mono ?_; rintro e w1 ⟨rfl, hb1⟩; have HB1 := Lib.hid hb1; clear hb1))
      go_ret
      exact ⟨rfl, HB1.out⟩
end Go.Proofs.Ytlfecceleoiafaa.diceOften

/-
  Contract: the first values of the state 0 ('alive') are as the statements ask. Conditions: none.
-/
import Derived.Test.YtlfecceleoiafaaW7
namespace Go.Proofs.Ytlfecceleoiafaa
open Go.RowKit

theorem z1 : stepZ 0 = 11400714819323198485 := by decide +kernel
theorem z2 : mixZ (stepZ 0) = 16294208416658607535 := by decide +kernel
theorem z3 : takeZ 0 16 = 14 := by decide +kernel
theorem z4 : mixZ 0 = 0 := by decide +kernel
theorem z5 : stN 0 2 = 4354685564936845354 := by decide +kernel
theorem z6 : IntKind.u64.wrap (11400714819323198485 + 11400714819323198485) = 4354685564936845354 := by decide +kernel

theorem next0 (w : World) : Calls Try.prog 10 #[.int .u64 0] w fun e w' => e = .returned (.tuple #[.int .u64 16294208416658607535, .int .u64 11400714819323198485]) ∧ w = w' := by
  have h := next_any 0 w
  rw [z2, z1] at h
  exact h
theorem below0 (w : World) : Calls Try.prog 19 #[.int .u64 0, .int .i64 16] w fun e w' => e = .returned (.tuple #[.int .i64 14, .int .u64 11400714819323198485]) ∧ w = w' := by
  have h := below_any 0 16 (by omega) (by omega) w
  rw [z3, z1] at h
  exact h
theorem mix0 (w : World) : Calls Try.prog 14 #[.int .u64 0] w fun e w' => e = .returned (.int .u64 0) ∧ w = w' := by
  have h := mix_any 0 w
  rw [z4] at h
  exact h
theorem stream0 (w : World) : Calls Try.prog 17 #[.int .u64 0, .slice none 0 0] w fun e w' => e = .returned (.int .u64 16294208416658607535) ∧ w = w' := by
  have h := stream_nil 0 none 0 w
  rw [z2] at h
  exact h
theorem many0 (w : World) : Calls Try.prog 16 #[.int .u64 0, .int .i64 2] w fun e w' => ∃ b : Nat, e = .returned (.tuple #[.slice (some ⟨b, 0, none⟩) 2 2, .int .u64 4354685564936845354]) ∧ w'.cell? ⟨b, 0, none⟩ = some (.int .u64 16294208416658607535) ∧ Below w.heap.size w w' := by
  refine (many_mid 0 2 (by omega) w).mono ?_
  rintro e w1 ⟨cs, rfl, rfl, hs, hc⟩
  refine ⟨w.heap.size, by rw [z5], ?_, (Below.refl _ _).alloc (Nat.le_refl _) _⟩
  rw [World.cell?_alloc_at _ _ _ _ rfl, hc 0 (by omega)]
  show some (Value.int .u64 (mixZ (stepZ 0))) = _
  rw [z2]

set_option maxHeartbeats 800000 in
theorem alive_any (w : World) : Calls Try.prog 11 #[] w fun e w' => e = .returned (.bool true) ∧ Below w.heap.size w w' := by
  have hz := z6
  go_enter Try.func11, Try.ntmps11
  go_wp2_with fail
  refine (next0 _).mono ?_
  rintro e w1 ⟨rfl, rfl⟩
  go_wp2_with fail
  refine (below0 _).mono ?_
  rintro e w1 ⟨rfl, rfl⟩
  go_wp2_with fail
  refine (many0 _).mono ?_
  rintro e w1 ⟨b, rfl, hc, hb1⟩
  have HB1 := Lib.hid hb1
  clear hb1
  go_wp2_with fail
  refine (mix0 _).mono ?_
  rintro e w1 ⟨rfl, rfl⟩
  go_wp2_with fail
  refine (stream0 _).mono ?_
  rintro e w1 ⟨rfl, rfl⟩
  go_wp2_with fail
  go_ret
  exact ⟨rfl, HB1.out⟩
end Go.Proofs.Ytlfecceleoiafaa

/-
  Contract: what the document's own Most answers. Conditions: as each states.
-/
import Derived.Test.YtidklcjacejkaaaB3
namespace Go.Proofs.Ytidklcjacejkaaa
open Go.RowKit

set_option maxRecDepth 100000 in
set_option maxHeartbeats 8000000 in
theorem rmost_any (r u l t k : Int) (w : World) : Calls Try.prog 19 #[.agg #[.int .i64 r, .int .i64 u, .int .i64 l, .int .i64 t], .int .i64 k] w fun e w' => e = .returned (.int .i64 (mostV r u l t k)) ∧ Below w.heap.size w w' := by
  obtain ⟨F, hF⟩ : ∃ F, rightB r u l t = F := ⟨_, rfl⟩
  have HV := Lib.hid (show mostV r u l t k = if F = true then near (near u + near (near (near r * near k))) else 0 by unfold mostV; rw [hF])
  have HRG := Lib.hid (fun W => show Calls Try.prog 15 #[.agg #[.int .i64 r, .int .i64 u, .int .i64 l, .int .i64 t]] W fun e w' => e = .returned (.bool F) ∧ Below W.heap.size W w' from by rw [← hF]; exact rright_any r u l t W)
  have HB0 := Lib.hid (show Below w.heap.size w (w.alloc (.cells #[.int .i64 r, .int .i64 u, .int .i64 l, .int .i64 t] 23)) from (Below.refl _ _).alloc (Nat.le_refl _) _)
  have hk0 := heap_alloc_new w (.cells #[.int .i64 r, .int .i64 u, .int .i64 l, .int .i64 t] 23)
  obtain ⟨M, hM⟩ : ∃ M, near (near r * near k) = M := ⟨_, rfl⟩
  obtain ⟨N, hN⟩ : ∃ N, near (near u + near M) = N := ⟨_, rfl⟩
  have HMU := Lib.hid (fun W => show Calls Try.prog 22 #[.int .i64 r, .int .i64 k] W fun e w' => e = .returned (.int .i64 M) ∧ Below W.heap.size W w' from by rw [← hM]; exact rmul_any r k W)
  have HAD := Lib.hid (fun W => show Calls Try.prog 21 #[.int .i64 u, .int .i64 M] W fun e w' => e = .returned (.int .i64 N) ∧ W = w' from by rw [← hN]; exact radd_any u M W)
  rw [hM, hN] at HV
  have HK0 := Lib.hid hk0
  clear hF hM hN hk0
  go_enter Try.func19, Try.ntmps19
  go_wp2_with fail
  generalize w.alloc (.cells #[.int .i64 r, .int .i64 u, .int .i64 l, .int .i64 t] 23) = w1 at *
  refine (HRG.out _).mono ?_
  rintro e w3 ⟨rfl, hb⟩
  have HB3 := Lib.hid (seqB HB0.out hb)
  have HG := Lib.hid ((hb.block _ (blk_lt HK0.out)).trans HK0.out)
  clear hb
  cases F with
  | false =>
    go_wp2_with fail
    go_ret
    exact ⟨ret_int (by rw [HV.out]; rfl), HB3.out⟩
  | true =>
    have HCK := Lib.hid (show ∀ W, Below w3.heap.size w3 W → (W.cell? ⟨w.heap.size, 0, none⟩ = some (.int .i64 r) ∧ W.cell? ⟨w.heap.size, 1, none⟩ = some (.int .i64 u)) ∧ Below w3.heap.size w3 W from
      fun W hb => ⟨⟨cell_of_row _ _ 0 _ _ _ ((hb.block _ (blk_lt HG.out)).trans HG.out), cell_of_row _ _ 1 _ _ _ ((hb.block _ (blk_lt HG.out)).trans HG.out)⟩, hb⟩)
    go_wp2_with fail
    go_region_held (fun W => (W.cell? ⟨w.heap.size, 0, none⟩ = some (.int .i64 r) ∧ W.cell? ⟨w.heap.size, 1, none⟩ = some (.int .i64 u)) ∧ Below w3.heap.size w3 W)
      ((refine HCK.out _ ?_
        go_split_ands
        first
          | with_reducible exact (Below.refl _ _).drew
          | with_reducible assumption))
      (first
        | (go_at_call 22; go_split_ands; (with_reducible refine Calls.mono (HMU.out _) ?_); rintro e w5 ⟨rfl, hb⟩; (have hb5 := seqB (by assumption) hb); clear hb)
        | (go_at_call 21; go_split_ands; (with_reducible refine Calls.mono (HAD.out _) ?_); rintro e w6 ⟨rfl, rfl⟩))
    have HE := Lib.hid (seqB HB3.out hb5)
    clear hb5
    go_wp2_with fail
    go_ret
    exact ⟨ret_int (by rw [HV.out]; rfl), HE.out⟩
end Go.Proofs.Ytidklcjacejkaaa

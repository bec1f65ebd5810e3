/-
  How many calls came in: the form's own reach. Conditions: as each states.
-/
import Derived.Test.YtpohfcjmjfhdoaaR
namespace Go.Proofs.Ytpohfcjmjfhdoaa
open Go.ChangeShapes Go.WideShapes Go.ChangeAt Go.RowKit

theorem bytesOp : Try.prog.bytesOf 30 = 24 := by kernel_rfl
theorem lenO {H : Type} {enc : TypeId × Value → H} {W : World} {a : Option Addr} {len cap : Nat} {d : DataW H} {p : List MemPlace}
    (h : DataW.Trod enc Try.prog W 0 (fun _ => true) true 22 (.slice a len cap) d p) (hz : ∀ n ∈ d.weights Try.prog 22, n ≤ reachBytes) : len ≤ 140737488351232 := by
  obtain ⟨fuel, hf⟩ := h
  rcases Go.Deep.open_slice Try.underlying22 hf with ⟨hcs, hx⟩ | ⟨a', len', cap', m, n, D, Pl, hcs, _, hl, hm, hmm, hx, hcell⟩
  · simp [Value.cells] at hcs
    obtain ⟨rfl, rfl, rfl⟩ := hcs
    omega
  · simp [Value.cells] at hcs
    obtain ⟨rfl, rfl, rfl⟩ := hcs
    simp only [Prod.mk.injEq] at hx
    rw [hx.1] at hz
    have h1 := hz _ (by simp only [DataW.weights, Try.underlying22]; exact List.mem_cons_self)
    rw [bytesOp] at h1
    simp only [List.length_map, List.length_range, reachBytes] at h1
    omega
end Go.Proofs.Ytpohfcjmjfhdoaa

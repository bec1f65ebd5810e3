/-
  Slices of texts that came in. Conditions: as each states.
-/
import Derived.Test.YtfdfgnmgpgkknaaR
import Derived.Test.YtfdfgnmgpgkknaaLDrains
import Derived.ChangeMaps5
import Derived.SliceStrings
namespace Go.Proofs.Ytfdfgnmgpgkknaa
open Go.ChangeShapes Go.WideShapes Go.ChangeAt Go.RowKit
theorem openStrs {H : Type} {enc : TypeId × Value → H} {W : World} {a : Option Addr} {len cap : Nat} {d : DataW H} {p : List MemPlace}
    (h : DataW.Trod enc Try.prog W 0 (fun _ => true) true 39 (.slice a len cap) d p) :
    ∃ ss : List ByteArray, ss.length = len ∧ chainDrains.StrsIn W a len ss := by
  obtain ⟨fuel, hf⟩ := h
  rcases open_strings Try.underlying39 Try.underlying9 cells9 hf with ⟨hcs, hx⟩ | ⟨a', len', cap', zs, hcs, _, hl, hm, hz, hx, hcell, hwz⟩
  · simp [Value.cells] at hcs
    obtain ⟨rfl, rfl, rfl⟩ := hcs
    exact ⟨[], rfl, (fun h => absurd h (by omega))⟩
  · simp [Value.cells] at hcs
    obtain ⟨rfl, rfl, rfl⟩ := hcs
    simp only [if_true] at hz
    unfold maxLen at hm
    refine ⟨zs.take len, by simp; omega, fun hn => ?_⟩
    obtain ⟨b, o, s⟩ := a'
    obtain rfl : s = none := by simpa [Addr.add] using World.cell?_spot (hcell 0 (by omega))
    exact ⟨b, o, rfl, fun i hi => by rw [← add_plain, hcell i (by omega)]; simp [List.getD, hi]⟩
end Go.Proofs.Ytfdfgnmgpgkknaa

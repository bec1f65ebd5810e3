/-
  Slices of numbers, of texts, and of calls, as lists. Conditions: as each states.
-/
import Derived.Test.YtanbggegbhcfhaaOwn
namespace Go.Proofs.Ytanbggegbhcfhaa
open Go.RowKit
def IntsIn (w : World) (p : Option Addr) (n : Nat) (xs : List Int) : Prop := 0 < n → ∃ b o, p = some ⟨b, o, none⟩ ∧ ∀ i, i < n → w.cell? ⟨b, o + i, none⟩ = some (.int .i64 (xs.getD i 0))
def StrsIn (w : World) (p : Option Addr) (n : Nat) (ss : List ByteArray) : Prop := 0 < n → ∃ b o, p = some ⟨b, o, none⟩ ∧ ∀ i, i < n → w.cell? ⟨b, o + i, none⟩ = some (.string (ss.getD i ByteArray.empty))
def OpsIn (w : World) (p : Option Addr) (n : Nat) (os : List (Int × Int)) : Prop := 0 < n → ∃ b o, p = some ⟨b, o, none⟩ ∧ ∀ i, i < n → w.cell? ⟨b, o + i * 2, none⟩ = some (.int .i64 (os.getD i (0, 0)).1) ∧ w.cell? ⟨b, o + (i * 2 + 1), none⟩ = some (.int .i64 (os.getD i (0, 0)).2)
theorem ints_on {w w' : World} {p : Option Addr} {n : Nat} {xs : List Int} (h : IntsIn w p n xs) (hb : Below w.heap.size w w') : IntsIn w' p n xs := fun hn => by
  obtain ⟨b, o, e, hc⟩ := h hn
  exact ⟨b, o, e, fun i hi => (hb.cell (World.block_lt_of_cell? w _ (hc i hi))).trans (hc i hi)⟩
theorem strs_on {w w' : World} {p : Option Addr} {n : Nat} {ss : List ByteArray} (h : StrsIn w p n ss) (hb : Below w.heap.size w w') : StrsIn w' p n ss := fun hn => by
  obtain ⟨b, o, e, hc⟩ := h hn
  exact ⟨b, o, e, fun i hi => (hb.cell (World.block_lt_of_cell? w _ (hc i hi))).trans (hc i hi)⟩
theorem ops_on {w w' : World} {p : Option Addr} {n : Nat} {os : List (Int × Int)} (h : OpsIn w p n os) (hb : Below w.heap.size w w') : OpsIn w' p n os := fun hn => by
  obtain ⟨b, o, e, hc⟩ := h hn
  exact ⟨b, o, e, fun i hi => ⟨(hb.cell (World.block_lt_of_cell? w _ (hc i hi).1)).trans (hc i hi).1, (hb.cell (World.block_lt_of_cell? w _ (hc i hi).2)).trans (hc i hi).2⟩⟩
end Go.Proofs.Ytanbggegbhcfhaa

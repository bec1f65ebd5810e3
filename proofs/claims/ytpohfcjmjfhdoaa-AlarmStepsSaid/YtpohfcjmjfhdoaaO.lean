/-
  Slices of calls, as lists. Conditions: as each states.
-/
import Derived.Test.YtpohfcjmjfhdoaaD
namespace Go.Proofs.Ytpohfcjmjfhdoaa
open Go.RowKit

/-- A call: its kind, its tick, its id. -/
abbrev Call := Int × Int × Int
def noCall : Call := (0, 0, 0)
def OpsIn (w : World) (p : Option Addr) (n : Nat) (os : List Call) : Prop := 0 < n → ∃ b o, p = some ⟨b, o, none⟩ ∧ ∀ i, i < n →
  w.cell? ⟨b, o + i * 3, none⟩ = some (.int .i64 (os.getD i noCall).1) ∧ w.cell? ⟨b, o + (i * 3 + 1), none⟩ = some (.int .i64 (os.getD i noCall).2.1) ∧ w.cell? ⟨b, o + (i * 3 + 2), none⟩ = some (.int .i64 (os.getD i noCall).2.2)
theorem ops_on {w w' : World} {p : Option Addr} {n : Nat} {os : List Call} (h : OpsIn w p n os) (hb : Below w.heap.size w w') : OpsIn w' p n os := fun hn => by
  obtain ⟨b, o, e, hc⟩ := h hn
  exact ⟨b, o, e, fun i hi => ⟨(hb.cell (World.block_lt_of_cell? w _ (hc i hi).1)).trans (hc i hi).1, (hb.cell (World.block_lt_of_cell? w _ (hc i hi).2.1)).trans (hc i hi).2.1, (hb.cell (World.block_lt_of_cell? w _ (hc i hi).2.2)).trans (hc i hi).2.2⟩⟩
theorem at_of (l : List Call) (k : Nat) (h : k < l.length) : l.getD k noCall ∈ l := by
  rw [List.getD_eq_getElem?_getD, List.getElem?_eq_getElem h]
  exact List.getElem_mem h
def Wf64 (x : Int) : Prop := -9223372036854775808 ≤ x ∧ x ≤ 9223372036854775807
def IntsIn (w : World) (p : Option Addr) (n : Nat) (xs : List Int) : Prop := 0 < n → ∃ b o, p = some ⟨b, o, none⟩ ∧ ∀ i, i < n → w.cell? ⟨b, o + i, none⟩ = some (.int .i64 (xs.getD i 0))
theorem ints_on {w w' : World} {p : Option Addr} {n : Nat} {xs : List Int} (h : IntsIn w p n xs) (hb : Below w.heap.size w w') : IntsIn w' p n xs := fun hn => by
  obtain ⟨b, o, e, hc⟩ := h hn
  exact ⟨b, o, e, fun i hi => (hb.cell (World.block_lt_of_cell? w _ (hc i hi))).trans (hc i hi)⟩
end Go.Proofs.Ytpohfcjmjfhdoaa

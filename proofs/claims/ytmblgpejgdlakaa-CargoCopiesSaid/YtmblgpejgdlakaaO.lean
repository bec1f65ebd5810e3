/-
  Slices of calls, as lists. Conditions: as each states.
-/
import Derived.Test.YtmblgpejgdlakaaA
namespace Go.Proofs.Ytmblgpejgdlakaa
open Go.RowKit

/-- A call: its kind, its tick, its number, its text. -/
abbrev Call := Int × Int × Int × ByteArray
def noCall : Call := (0, 0, 0, ⟨#[]⟩)
def OpsIn (w : World) (p : Option Addr) (n : Nat) (os : List Call) : Prop := 0 < n → ∃ b o, p = some ⟨b, o, none⟩ ∧ ∀ i, i < n →
  w.cell? ⟨b, o + i * 4, none⟩ = some (.int .i64 (os.getD i noCall).1) ∧ w.cell? ⟨b, o + (i * 4 + 1), none⟩ = some (.int .i64 (os.getD i noCall).2.1) ∧ w.cell? ⟨b, o + (i * 4 + 2), none⟩ = some (.int .i64 (os.getD i noCall).2.2.1) ∧ w.cell? ⟨b, o + (i * 4 + 3), none⟩ = some (.string (os.getD i noCall).2.2.2)
theorem ops_on {w w' : World} {p : Option Addr} {n : Nat} {os : List Call} (h : OpsIn w p n os) (hb : Below w.heap.size w w') : OpsIn w' p n os := fun hn => by
  obtain ⟨b, o, e, hc⟩ := h hn
  exact ⟨b, o, e, fun i hi => ⟨(hb.cell (World.block_lt_of_cell? w _ (hc i hi).1)).trans (hc i hi).1, (hb.cell (World.block_lt_of_cell? w _ (hc i hi).2.1)).trans (hc i hi).2.1, (hb.cell (World.block_lt_of_cell? w _ (hc i hi).2.2.1)).trans (hc i hi).2.2.1, (hb.cell (World.block_lt_of_cell? w _ (hc i hi).2.2.2)).trans (hc i hi).2.2.2⟩⟩
def Wf64 (x : Int) : Prop := -9223372036854775808 ≤ x ∧ x ≤ 9223372036854775807
/-- How many bytes the texts of the calls have. -/
def total : List Call → Nat
  | [] => 0
  | o :: r => o.2.2.2.size + total r
theorem total_append (l m : List Call) : total (l ++ m) = total l + total m := by
  induction l with
  | nil => simp [total]
  | cons o r ih => simp only [List.cons_append, total, ih]; omega
theorem total_take_le (l : List Call) (k : Nat) : total (l.take k) ≤ total l := by
  have h := total_append (l.take k) (l.drop k)
  rw [List.take_append_drop] at h
  omega
theorem total_take_succ (l : List Call) (k : Nat) (h : k < l.length) : total (l.take (k + 1)) = total (l.take k) + (l.getD k noCall).2.2.2.size := by
  rw [List.take_add_one, List.getElem?_eq_getElem h, total_append, List.getD_eq_getElem?_getD, List.getElem?_eq_getElem h]
  simp [total]
theorem total_bound (l : List Call) (B : Nat) (h : ∀ o ∈ l, o.2.2.2.size ≤ B) : total l ≤ l.length * B := by
  induction l with
  | nil => simp [total]
  | cons o r ih =>
    have h1 := h o (by simp)
    have h2 := ih fun x hx => h x (by simp [hx])
    simp only [total, List.length_cons, Nat.add_mul, Nat.one_mul]
    omega
theorem size_of_total (l : List Call) (k : Nat) (h : k < l.length) : (l.getD k noCall).2.2.2.size ≤ total l := by
  have h1 := total_take_succ l k h
  have h2 := total_take_le l (k + 1)
  omega
theorem at_of (l : List Call) (k : Nat) (h : k < l.length) : l.getD k noCall ∈ l := by
  rw [List.getD_eq_getElem?_getD, List.getElem?_eq_getElem h]
  exact List.getElem_mem h
end Go.Proofs.Ytmblgpejgdlakaa

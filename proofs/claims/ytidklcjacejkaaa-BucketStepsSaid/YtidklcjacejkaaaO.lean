/-
  Slices of steps, as lists; rows of numbers. Conditions: as each states.
-/
import Derived.Test.YtidklcjacejkaaaB6
import Derived.OwnWalk
import Derived.Laws.AppendOwn
import Derived.Lib.AppendZeros
namespace Go.Proofs.Ytidklcjacejkaaa
open Go.RowKit

/-- A step: so many ticks later, so many. -/
abbrev Stp := Int × Int
def noStp : Stp := (0, 0)
def StpsIn (w : World) (p : Option Addr) (n : Nat) (os : List Stp) : Prop := 0 < n → ∃ b o, p = some ⟨b, o, none⟩ ∧ ∀ i, i < n →
  w.cell? ⟨b, o + i * 2, none⟩ = some (.int .i64 (os.getD i noStp).1) ∧ w.cell? ⟨b, o + (i * 2 + 1), none⟩ = some (.int .i64 (os.getD i noStp).2)
theorem stps_on {w w' : World} {p : Option Addr} {n : Nat} {os : List Stp} (h : StpsIn w p n os) (hb : Below w.heap.size w w') : StpsIn w' p n os := fun hn => by
  obtain ⟨b, o, e, hc⟩ := h hn
  exact ⟨b, o, e, fun i hi => ⟨(hb.cell (World.block_lt_of_cell? w _ (hc i hi).1)).trans (hc i hi).1, (hb.cell (World.block_lt_of_cell? w _ (hc i hi).2)).trans (hc i hi).2⟩⟩
def Wf64 (x : Int) : Prop := -9223372036854775808 ≤ x ∧ x ≤ 9223372036854775807
theorem stp_of (l : List Stp) (k : Nat) (h : k < l.length) : l.getD k noStp ∈ l := by
  rw [List.getD_eq_getElem?_getD, List.getElem?_eq_getElem h]
  exact List.getElem_mem h

/-! Rows of numbers. -/
def IntsIn (w : World) (p : Option Addr) (n : Nat) (xs : List Int) : Prop := 0 < n → ∃ b o, p = some ⟨b, o, none⟩ ∧ ∀ i, i < n → w.cell? ⟨b, o + i, none⟩ = some (.int .i64 (xs.getD i 0))
theorem ints_on {w w' : World} {p : Option Addr} {n : Nat} {xs : List Int} (h : IntsIn w p n xs) (hb : Below w.heap.size w w') : IntsIn w' p n xs := fun hn => by
  obtain ⟨b, o, e, hc⟩ := h hn
  exact ⟨b, o, e, fun i hi => (hb.cell (World.block_lt_of_cell? w _ (hc i hi))).trans (hc i hi)⟩
theorem ints_nil (w : World) (p : Option Addr) (xs : List Int) : IntsIn w p 0 xs := fun h => absurd h (Nat.lt_irrefl 0)
theorem own_ints {w : World} {base n : Nat} {v : Value} {xs : List Int} (h : w.ownsRow base 3 1 v n (xs.map (Value.int .i64))) :
    ∃ p c, v = .slice p n c ∧ xs.length = n ∧ IntsIn w p n xs ∧ (p = none → c = 0) ∧ n ≤ c ∧ c ≤ 9223372036854775807 := by
  have hl : xs.length = n := by have := h.1; simpa using this
  obtain ⟨_, ⟨rfl, rfl⟩ | ⟨g, cap, cur, rfl, hb, hh, h1, h2, h3, h4⟩⟩ := id h
  · exact ⟨none, 0, rfl, hl, ints_nil _ _ _, fun _ => rfl, Nat.le_refl _, by omega⟩
  · unfold maxLen at h2
    refine ⟨_, cap, rfl, hl, fun _ => ⟨g, 0, rfl, fun i hi => ?_⟩, (fun h => by cases h), h1, by omega⟩
    rw [Nat.zero_add, h.cellAt i (by omega), List.getElem?_map, List.getD_eq_getElem?_getD, List.getElem?_eq_getElem (by omega)]
    rfl
theorem info3 : (Try.prog.info? 3).map (fun i => (i.zero, i.size, i.bytes)) = some (some (.int .i64 0), 1, 8) := by kernel_rfl
theorem own_on {w w' : World} {base T K n : Nat} {v : Value} {zs : List Value} (h : w.ownsRow base T K v n zs) (hb : Below w.heap.size w w') : w'.ownsRow base T K v n zs :=
  h.kept (row := none) ⟨hb.os, hb.tape, hb.output, hb.size, fun i hi _ => hb.block i hi⟩ (by cases e : v.ownBlock <;> simp)
theorem made_int (w : World) (x : Int) (T : TypeId) (fr : Nat × Nat) : IntsIn (w.alloc (.cells #[.int .i64 x] T fr)) (some ⟨w.heap.size, 0, none⟩) 1 [x] := fun _ => ⟨_, _, rfl, fun i hi => by
  obtain rfl : i = 0 := by omega
  exact cell_of_row _ _ 0 _ _ _ (heap_alloc_new w (.cells #[.int .i64 x] T fr))⟩
/-- One number more, of a row that was just made. -/
theorem app_int {w w0 : World} {base m : Nat} {v : Value} {zs : List Int} (hown : w.ownsRow base 3 1 v m (zs.map (Value.int .i64))) (hbase : base ≤ w.heap.size) (hb : Below base w0 w) (hbig : m + 1 ≤ 1000000) (x : Int) :
    ∃ q d w', (∀ ty, (Builtin.append_ #[44, 44] ty #[v, .slice (some ⟨w.heap.size, 0, none⟩) 1 1]).run Try.prog (w.alloc (.cells #[.int .i64 x] 3)) = .ok (.slice q (m + 1) d) w') ∧ w'.ownsRow base 3 1 (.slice q (m + 1) d) (m + 1) ((zs ++ [x]).map (Value.int .i64)) ∧ Below base w0 w' ∧ (w.alloc (.cells #[.int .i64 x] 3)).grownBy w' v.ownBlock := by
  obtain ⟨i0, hi0, hz0, hz1, hz2⟩ := info_parts info3
  have ho := hown.alloc (.cells #[.int .i64 x] 3)
  have hnew := heap_alloc_new w (.cells #[.int .i64 x] 3)
  obtain ⟨v', w', h1, h2, h3, _⟩ := run_append_own _ base 44 44 3 i0 (.int .i64 0) 1 8 Try.underlying44 hi0 hz0 hz1 hz2 rfl (by decide) v m _ ho ⟨w.heap.size, 0, none⟩ 1 1 ([x].map (Value.int .i64)) rfl (by
    intro j u hj
    have hj1 : j < 1 := by have := (List.getElem?_eq_some_iff.mp hj).1; simpa using this
    obtain rfl : j = 0 := by omega
    rw [WideShapes.add_plain, ← hj]
    exact cell_of_row _ _ 0 _ _ _ hnew) (by simp [Value.oneCell']) (by unfold maxLen; omega) (by omega) (by simp; omega)
  rw [← List.map_append] at h2
  obtain ⟨q, d, rfl, _⟩ := own_ints h2
  exact ⟨q, d, w', fun ty => by rw [← h1]; rfl, h2, (hb.alloc hbase _).grown h3 (by simp; omega) (fun j hj => (hown.lt j hj).1), h3⟩
end Go.Proofs.Ytidklcjacejkaaa

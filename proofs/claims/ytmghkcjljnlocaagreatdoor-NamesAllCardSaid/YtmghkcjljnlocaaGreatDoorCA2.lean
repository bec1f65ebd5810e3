/-
  Contract: what the document's own Put answers. Conditions: as each states.
-/
import Derived.Test.YtmghkcjljnlocaaGreatDoorCA1
namespace Go.Proofs.YtmghkcjljnlocaaGreatDoor.gc
open Go.RowKit

theorem set_heap {w : World} {g i : Nat} {cs : Array Value} {T : TypeId} {fr : Nat × Nat} (hg : w.heap[g]? = some (.cells cs T fr)) (u : Value) : (w.setCell ⟨g, i, none⟩ u).heap[g]? = some (.cells (cs.setIfInBounds i u) T fr) := by
  simp [World.setCell, Array.getElem?_modify, hg]
def set3 (w : World) (g : Nat) (a b c : Value) : World := ((w.setCell ⟨g, 0, none⟩ a).setCell ⟨g, 1, none⟩ b).setCell ⟨g, 2, none⟩ c
theorem set3_heap {w : World} {g : Nat} {x y z : Value} {T : TypeId} (h : w.heap[g]? = some (.cells #[x, y, z] T (0, 0))) (a b c : Value) : (set3 w g a b c).heap[g]? = some (.cells #[a, b, c] T (0, 0)) := by
  unfold set3
  rw [set_heap (set_heap (set_heap h a) b) c]
  rfl
theorem set3_far {w : World} {g k : Nat} (a b c : Value) (h : k ≠ g) : (set3 w g a b c).heap[k]? = w.heap[k]? := by
  unfold set3
  rw [Below.heap_setCell _ _ _ _ h, Below.heap_setCell _ _ _ _ h, Below.heap_setCell _ _ _ _ h]
theorem set3_below {B : Nat} {w0 w : World} {g : Nat} (h : Below B w0 w) (hg : B ≤ g) (a b c : Value) : Below B w0 (set3 w g a b c) := ((h.setCell (p := ⟨g, 0, none⟩) hg a).setCell (p := ⟨g, 1, none⟩) hg b).setCell (p := ⟨g, 2, none⟩) hg c
/-- A row of ticks that is told: its numbers, where they lie; its block is one of numbers. -/
def RowA (w : World) (p : Option Addr) (n c : Nat) (xs : List Int) : Prop := xs.length = n ∧ n ≤ c ∧ c ≤ 9223372036854775807 ∧ IntsIn w p n xs ∧ (p = none → c = 0) ∧ (0 < n → ∃ a cs fr, p = some a ∧ w.heap[a.block]? = some (.cells cs 3 fr))
theorem rowA_on {w w' : World} {p : Option Addr} {n c : Nat} {xs : List Int} (h : RowA w p n c xs) (hb : Below w.heap.size w w') : RowA w' p n c xs := ⟨h.1, h.2.1, h.2.2.1, ints_on h.2.2.2.1 hb, h.2.2.2.2.1, fun hn => by
  obtain ⟨a, cs, fr, e, hh⟩ := h.2.2.2.2.2 hn
  exact ⟨a, cs, fr, e, (hb.block _ (blk_lt hh)).trans hh⟩⟩
theorem rowA_nil (w : World) : RowA w none 0 0 [] := ⟨rfl, Nat.le_refl _, by omega, ints_nil _ _ _, fun _ => rfl, fun h => absurd h (Nat.lt_irrefl 0)⟩
/-- A row of the call's own, wherever older blocks are written. -/
theorem rowA_of_own {w w' : World} {B M d : Nat} {q : Option Addr} {xs : List Int} (ho : w.ownsRow B 3 1 (.slice q M d) M (xs.map (Value.int .i64))) (h : ∀ k, B ≤ k → w'.heap[k]? = w.heap[k]?) : RowA w' q M d xs := by
  obtain ⟨p', c', e, hl, hi, hz, hc1, hc2⟩ := own_ints ho
  cases e
  refine ⟨hl, hc1, hc2, fun hn => ?_, hz, fun hn => ?_⟩
  · obtain ⟨b, o, e, hc⟩ := hi hn
    have hbb := (ho.lt b (by rw [e]; rfl)).1
    refine ⟨b, o, e, fun i hi => ?_⟩
    rw [World.cell?_of_block (w := w) (h b hbb)]
    exact hc i hi
  · rcases ho.2 with ⟨e, h0⟩ | ⟨b, cap, cur, e, hb, hh, _⟩
    · omega
    · cases e
      exact ⟨_, cur, _, rfl, (h b hb).trans hh⟩

/-- The document's cargo behind Put. -/
def putT (last at' : Int) : Int := if near at' < last then last else near at'
/-- What it hands back. -/
def DidC (S : ByteArray) (A : List Int) (last N : Int) (w : World) (e : Ending) (w' : World) : Prop := ∃ p n c, e = .returned (.tuple #[.agg #[.string S, .slice p n c, .int .i64 last], .int .i64 N]) ∧ RowA w' p n c A ∧ Below w.heap.size w w'
theorem two_blocks {w w1 : World} {o0 o1 : Obj} (hb : Below ((w.alloc o0).alloc o1).heap.size ((w.alloc o0).alloc o1) w1) :
    w1.heap[w.heap.size]? = some o0 ∧ w1.heap[w.heap.size + 1]? = some o1 ∧ w.heap.size + 1 < w1.heap.size := by
  have hs := hb.size
  have s0 : (w.alloc o0).heap.size = w.heap.size + 1 := by simp
  have s1 : ((w.alloc o0).alloc o1).heap.size = w.heap.size + 1 + 1 := by simp
  rw [s1] at hs hb
  refine ⟨?_, ?_, by omega⟩
  · rw [hb.block _ (by omega), Below.heap_alloc _ _ _ (by omega)]
    exact heap_alloc_new w o0
  · rw [hb.block _ (by omega)]
    have := heap_alloc_new (w.alloc o0) o1
    rw [s0] at this
    exact this
theorem below2 (w : World) (o o' : Obj) : Below w.heap.size w ((w.alloc o).alloc o') := ((Below.refl _ _).alloc (Nat.le_refl _) _).alloc (by simp) _
theorem putT_lt {last a : Int} (h : near a < last) : putT last a = last := by unfold putT; rw [if_pos h]
theorem putT_ge {last a : Int} (h : ¬ near a < last) : putT last a = near a := by unfold putT; rw [if_neg h]
theorem seqB0 {w w1 w2 : World} {K : Nat} (h1 : Below w.heap.size w w1) (h2 : Below K w1 w2) (hk : w.heap.size ≤ K := by omega) : Below w.heap.size w w2 := h1.trans (h2.mono hk)
theorem text_some {s : ByteArray} (h : 0 < s.size) : s.toList.isEmpty = false := by
  rw [← str_nums s, Lib.strOfNums_toList]
  have := nums_length s
  cases e : nums s with
  | nil => rw [e] at this; simp at this; omega
  | cons x r => rfl
theorem made_noInts (w : World) : (w.alloc (.cells #[] 3)).ownsRow w.heap.size 3 1 (.slice (some ⟨w.heap.size, 0, none⟩) 0 0) 0 (([] : List Int).map (Value.int .i64)) :=
  World.ownsRow_made w #[] 0 (Nat.le_refl _) (Nat.zero_le _) rfl
theorem rep_next (k : Nat) (T : Int) (A : List Int) : (A ++ List.replicate k T) ++ [T] = A ++ List.replicate (k + 1) T := by rw [List.append_assoc, ← List.replicate_succ']
end Go.Proofs.YtmghkcjljnlocaaGreatDoor.gc

/-
  Contract: what the document's own Put answers. Conditions: as each states.
  Contract: what the document's own Take answers. Conditions: as each states.
  Contract: what the document's own Hurry answers. Conditions: as each states.
  Contract: what the document's own Do answers. Conditions: as each states.
  Contract: what the document's own Do answers, all of it. Conditions: as each states.
  Bytes, texts, right numbers; the document's own Word, Numbers, Kind, Name. Conditions: as each states.
  Contracts: what the document's own Name, right, numbers, Check answer. Conditions: as each states.
-/
import Derived.Test.YtfdfgnmgpgkknaaMZ4
import Derived.Test.YtfdfgnmgpgkknaaChecked
import Derived.WalkKit
import Derived.WalkMore
import Derived.Lib.Hide
import Derived.BigQuiet
import Derived.Deep.QuietTactic
import Derived.RegionTactic
import Derived.OwnWalk
import Derived.Lib.SliceRun
import Derived.IntWalk
import Derived.OneCell
import Derived.Laws.IdiomStrings
import Derived.Deep.Draws
import Derived.Lib.SmallJoins
namespace Go.Proofs.Ytfdfgnmgpgkknaa.gc
open Go.RowKit

theorem set_heap {w : World} {g i : Nat} {cs : Array Value} {T : TypeId} {fr : Nat × Nat} (hg : w.heap[g]? = some (.cells cs T fr)) (u : Value) : (w.setCell ⟨g, i, none⟩ u).heap[g]? = some (.cells (cs.setIfInBounds i u) T fr) := by
  simp [World.setCell, Array.getElem?_modify, hg]
def set3 (w : World) (g : Nat) (a b c : Value) : World := ((w.setCell ⟨g, 0, none⟩ a).setCell ⟨g, 1, none⟩ b).setCell ⟨g, 2, none⟩ c
theorem set3_heap {w : World} {g : Nat} {x y z : Value} {T : TypeId} (h : w.heap[g]? = some (.cells #[x, y, z] T (0, 0))) (a b c : Value) : (set3 w g a b c).heap[g]? = some (.cells #[a, b, c] T (0, 0)) := by
  unfold set3
  rw [set_heap (set_heap (set_heap h a) b) c]
  rfl
theorem set3_far {w : World} {g k : Nat} (a b c : Value) (h : k ≠ g) : (set3 w g a b c).heap[k]? = w.heap[k]? := by
  unfold set3
  rw [Below.heap_setCell _ _ _ _ h, Below.heap_setCell _ _ _ _ h, Below.heap_setCell _ _ _ _ h]
theorem set3_below {B : Nat} {w0 w : World} {g : Nat} (h : Below B w0 w) (hg : B ≤ g) (a b c : Value) : Below B w0 (set3 w g a b c) := ((h.setCell (p := ⟨g, 0, none⟩) hg a).setCell (p := ⟨g, 1, none⟩) hg b).setCell (p := ⟨g, 2, none⟩) hg c
/-- A row of ticks that is told: its numbers, where they lie; its block is one of numbers. -/
def RowA (w : World) (p : Option Addr) (n c : Nat) (xs : List Int) : Prop := xs.length = n ∧ n ≤ c ∧ c ≤ 9223372036854775807 ∧ IntsIn w p n xs ∧ (p = none → c = 0) ∧ (0 < n → ∃ a cs fr, p = some a ∧ w.heap[a.block]? = some (.cells cs 3 fr))
theorem rowA_on {w w' : World} {p : Option Addr} {n c : Nat} {xs : List Int} (h : RowA w p n c xs) (hb : Below w.heap.size w w') : RowA w' p n c xs := ⟨h.1, h.2.1, h.2.2.1, ints_on h.2.2.2.1 hb, h.2.2.2.2.1, fun hn => by
  obtain ⟨a, cs, fr, e, hh⟩ := h.2.2.2.2.2 hn
  exact ⟨a, cs, fr, e, (hb.block _ (blk_lt hh)).trans hh⟩⟩
theorem rowA_nil (w : World) : RowA w none 0 0 [] := ⟨rfl, Nat.le_refl _, by omega, ints_nil _ _ _, fun _ => rfl, fun h => absurd h (Nat.lt_irrefl 0)⟩
/-- A row of the call's own, wherever older blocks are written. -/
theorem rowA_of_own {w w' : World} {B M d : Nat} {q : Option Addr} {xs : List Int} (ho : w.ownsRow B 3 1 (.slice q M d) M (xs.map (Value.int .i64))) (h : ∀ k, B ≤ k → w'.heap[k]? = w.heap[k]?) : RowA w' q M d xs := by
  obtain ⟨p', c', e, hl, hi, hz, hc1, hc2⟩ := own_ints ho
  cases e
  refine ⟨hl, hc1, hc2, fun hn => ?_, hz, fun hn => ?_⟩
  · obtain ⟨b, o, e, hc⟩ := hi hn
    have hbb := (ho.lt b (by rw [e]; rfl)).1
    refine ⟨b, o, e, fun i hi => ?_⟩
    rw [World.cell?_of_block (w := w) (h b hbb)]
    exact hc i hi
  · rcases ho.2 with ⟨e, h0⟩ | ⟨b, cap, cur, e, hb, hh, _⟩
    · omega
    · cases e
      exact ⟨_, cur, _, rfl, (h b hb).trans hh⟩

/-- The document's cargo behind Put. -/
def putT (last at' : Int) : Int := if near at' < last then last else near at'
/-- What it hands back. -/
def DidC (S : ByteArray) (A : List Int) (last N : Int) (w : World) (e : Ending) (w' : World) : Prop := ∃ p n c, e = .returned (.tuple #[.agg #[.string S, .slice p n c, .int .i64 last], .int .i64 N]) ∧ RowA w' p n c A ∧ Below w.heap.size w w'
theorem two_blocks {w w1 : World} {o0 o1 : Obj} (hb : Below ((w.alloc o0).alloc o1).heap.size ((w.alloc o0).alloc o1) w1) :
    w1.heap[w.heap.size]? = some o0 ∧ w1.heap[w.heap.size + 1]? = some o1 ∧ w.heap.size + 1 < w1.heap.size := by
  have hs := hb.size
  have s0 : (w.alloc o0).heap.size = w.heap.size + 1 := by simp
  have s1 : ((w.alloc o0).alloc o1).heap.size = w.heap.size + 1 + 1 := by simp
  rw [s1] at hs hb
  refine ⟨?_, ?_, by omega⟩
  · rw [hb.block _ (by omega), Below.heap_alloc _ _ _ (by omega)]
    exact heap_alloc_new w o0
  · rw [hb.block _ (by omega)]
    have := heap_alloc_new (w.alloc o0) o1
    rw [s0] at this
    exact this
theorem below2 (w : World) (o o' : Obj) : Below w.heap.size w ((w.alloc o).alloc o') := ((Below.refl _ _).alloc (Nat.le_refl _) _).alloc (by simp) _
theorem putT_lt {last a : Int} (h : near a < last) : putT last a = last := by unfold putT; rw [if_pos h]
theorem putT_ge {last a : Int} (h : ¬ near a < last) : putT last a = near a := by unfold putT; rw [if_neg h]
theorem seqB0 {w w1 w2 : World} {K : Nat} (h1 : Below w.heap.size w w1) (h2 : Below K w1 w2) (hk : w.heap.size ≤ K := by omega) : Below w.heap.size w w2 := h1.trans (h2.mono hk)
theorem text_some {s : ByteArray} (h : 0 < s.size) : s.toList.isEmpty = false := by
  rw [← str_nums s, Lib.strOfNums_toList]
  have := nums_length s
  cases e : nums s with
  | nil => rw [e] at this; simp at this; omega
  | cons x r => rfl
theorem made_noInts (w : World) : (w.alloc (.cells #[] 3)).ownsRow w.heap.size 3 1 (.slice (some ⟨w.heap.size, 0, none⟩) 0 0) 0 (([] : List Int).map (Value.int .i64)) :=
  World.ownsRow_made w #[] 0 (Nat.le_refl _) (Nat.zero_le _) rfl
theorem rep_next (k : Nat) (T : Int) (A : List Int) : (A ++ List.replicate k T) ++ [T] = A ++ List.replicate (k + 1) T := by rw [List.append_assoc, ← List.replicate_succ']
end Go.Proofs.Ytfdfgnmgpgkknaa.gc
namespace Go.Proofs.Ytfdfgnmgpgkknaa.gc
open Go.RowKit

theorem rowA_from {w : World} {p : Option Addr} {n c : Nat} {xs : List Int} (h : RowA w p n c xs) (N : Nat) (hN : N ≤ n) : RowA w (if c = N then p else p.map (·.add N)) (n - N) (c - N) (xs.drop N) := by
  refine ⟨by rw [List.length_drop, h.1], by have := h.2.1; omega, by have := h.2.2.1; omega, fun hn => ?_, fun e => ?_, fun hn => ?_⟩
  · obtain ⟨b, o, rfl, _⟩ := h.2.2.2.1 (by omega)
    have hne : ¬ c = N := by have := h.2.1; omega
    rw [if_neg hne]
    obtain ⟨b', o', e, hc⟩ := ints_drop h.2.2.2.1 N (n - N) (by omega) hn
    cases e
    exact ⟨b, o + N, by rw [Option.map_some, WideShapes.add_plain], hc⟩
  · by_cases hc : c = N
    · omega
    · rw [if_neg hc] at e
      cases p with
      | none => have := h.2.2.2.2.1 rfl; omega
      | some a => cases e
  · obtain ⟨b, o, rfl, _⟩ := h.2.2.2.1 (by omega)
    obtain ⟨a, cs, fr, e, hh⟩ := h.2.2.2.2.2 (by omega)
    cases e
    have hne : ¬ c = N := by have := h.2.1; omega
    rw [if_neg hne]
    exact ⟨⟨b, o + N, none⟩, cs, fr, by rw [Option.map_some, WideShapes.add_plain], hh⟩
/-- How many are taken. -/
def takeK (A : List Int) (x most : Int) : Nat := min (readyN A x) most.toNat
theorem takeK_le (A : List Int) (x most : Int) : takeK A x most ≤ A.length := by have := ready_le A x; unfold takeK; omega
/-- What Take hands back. -/
def TookC (S : ByteArray) (A : List Int) (last : Int) (T : ByteArray) (w : World) (e : Ending) (w' : World) : Prop := ∃ p n c, e = .returned (.tuple #[.agg #[.string S, .slice p n c, .int .i64 last], .string T]) ∧ RowA w' p n c A ∧ Below w.heap.size w w'
end Go.Proofs.Ytfdfgnmgpgkknaa.gc
namespace Go.Proofs.Ytfdfgnmgpgkknaa.gc
open Go.RowKit

/-- The lesser one, as Hurry takes it. -/
def low (t n : Int) : Int := if t < n then t else n
def lows (t : Int) (A : List Int) : List Int := A.map (low t)
theorem lows_length (t : Int) (A : List Int) : (lows t A).length = A.length := by simp [lows]
theorem lows_next (t : Int) (A : List Int) (k : Nat) (h : k < A.length) : lows t (A.take k) ++ [low t (A.getD k 0)] = lows t (A.take (k + 1)) := by
  rw [List.take_add_one, List.getD_eq_getElem?_getD, List.getElem?_eq_getElem h]
  unfold lows
  rw [List.map_append]
  rfl
theorem lows_all (t : Int) (A : List Int) (n : Nat) (h : A.length = n) : lows t (A.take n) = lows t A := by rw [← h, List.take_length]
/-- What Hurry hands back. -/
def HurC (S : ByteArray) (A : List Int) (last : Int) (w : World) (e : Ending) (w' : World) : Prop := ∃ p n c, e = .returned (.agg #[.string S, .slice p n c, .int .i64 last]) ∧ RowA w' p n c A ∧ Below w.heap.size w w'
end Go.Proofs.Ytfdfgnmgpgkknaa.gc
namespace Go.Proofs.Ytfdfgnmgpgkknaa.gc
open Go.RowKit

theorem below3 (w : World) (o o' o'' : Obj) : Below w.heap.size w (((w.alloc o).alloc o').alloc o'') := (((Below.refl _ _).alloc (Nat.le_refl _) _).alloc (by simp) _).alloc (by simp; omega) _
theorem three_blocks {w w1 : World} {o0 o1 o2 : Obj} (hb : Below (((w.alloc o0).alloc o1).alloc o2).heap.size (((w.alloc o0).alloc o1).alloc o2) w1) :
    w1.heap[w.heap.size]? = some o0 ∧ w1.heap[w.heap.size + 1]? = some o1 ∧ w1.heap[w.heap.size + 1 + 1]? = some o2 ∧ w.heap.size + 1 + 1 < w1.heap.size := by
  have hs := hb.size
  have s0 : (w.alloc o0).heap.size = w.heap.size + 1 := by simp
  have s1 : ((w.alloc o0).alloc o1).heap.size = w.heap.size + 1 + 1 := by simp
  have s2 : (((w.alloc o0).alloc o1).alloc o2).heap.size = w.heap.size + 1 + 1 + 1 := by simp
  rw [s2] at hs hb
  refine ⟨?_, ?_, ?_, by omega⟩
  · rw [hb.block _ (by omega), Below.heap_alloc _ _ _ (by omega), Below.heap_alloc _ _ _ (by omega)]
    exact heap_alloc_new w o0
  · rw [hb.block _ (by omega), Below.heap_alloc _ _ _ (by omega)]
    have := heap_alloc_new (w.alloc o0) o1
    rw [s0] at this
    exact this
  · rw [hb.block _ (by omega)]
    have := heap_alloc_new ((w.alloc o0).alloc o1) o2
    rw [s1] at this
    exact this
/-- A row of ticks stays where blocks of another kind are written. -/
theorem rowA_other {w w' : World} {p : Option Addr} {n c : Nat} {xs : List Int} {g : Nat} {cs : Array Value} {T : TypeId} {fr : Nat × Nat} (h : RowA w p n c xs) (hg : w.heap[g]? = some (.cells cs T fr)) (hT : T ≠ 3) (hw : ∀ k, k ≠ g → w'.heap[k]? = w.heap[k]?) : RowA w' p n c xs := by
  have hne : ∀ {a : Addr} {cs' fr'}, w.heap[a.block]? = some (.cells cs' 3 fr') → a.block ≠ g := fun hh e => by
    rw [e, hg] at hh
    simp at hh
    exact hT hh.2.1
  refine ⟨h.1, h.2.1, h.2.2.1, fun hn => ?_, h.2.2.2.2.1, fun hn => ?_⟩
  · obtain ⟨b, o, e, hc⟩ := h.2.2.2.1 hn
    obtain ⟨a, cs', fr', e', hh⟩ := h.2.2.2.2.2 hn
    rw [e] at e'
    cases e'
    refine ⟨b, o, e, fun i hi => ?_⟩
    rw [World.cell?_of_block (w := w) (w' := w') (a := ⟨b, o + i, none⟩) (hw b (hne hh))]
    exact hc i hi
  · obtain ⟨a, cs', fr', e', hh⟩ := h.2.2.2.2.2 hn
    exact ⟨a, cs', fr', e', (hw _ (hne hh)).trans hh⟩
/-- What Do hands back. -/
def Did (S : ByteArray) (A : List Int) (last N : Int) (T : ByteArray) (w : World) (e : Ending) (w' : World) : Prop := ∃ p n c, e = .returned (.tuple #[.agg #[.string S, .slice p n c, .int .i64 last], .int .i64 N, .string T]) ∧ RowA w' p n c A ∧ Below w.heap.size w w'
end Go.Proofs.Ytfdfgnmgpgkknaa.gc
namespace Go.Proofs.Ytfdfgnmgpgkknaa.gc
open Go.RowKit

/-- What a call makes of the document's cargo: its bytes, their ticks, the last one; a number, a text. -/
structure DoC where
  S : ByteArray
  A : List Int
  last : Int
  n : Int
  t : ByteArray
def doC (S : ByteArray) (A : List Int) (last kind a N : Int) (s : ByteArray) : DoC :=
  if kind = 0 then (if s.size = 0 then ⟨S, A, last, putT last a, ⟨#[]⟩⟩ else ⟨S ++ s, A ++ List.replicate s.size (putT last a), putT last a, putT last a, ⟨#[]⟩⟩)
  else if kind = 1 then ⟨S.extract (takeK A a N) S.size, A.drop (takeK A a N), last, 0, S.extract 0 (takeK A a N)⟩
  else if kind = 2 then ⟨S, lows (near a) A, low (near a) last, 0, ⟨#[]⟩⟩
  else if kind = 3 then ⟨⟨#[]⟩, [], last, 0, S⟩
  else ⟨S, A, last, 0, ⟨#[]⟩⟩
theorem text_none {s : ByteArray} (h : s.size = 0) : s = ⟨#[]⟩ := by
  rw [← str_nums s, List.eq_nil_of_length_eq_zero (by rw [nums_length]; exact h : (nums s).length = 0)]
  rfl
def DidA (x : DoC) (w : World) (e : Ending) (w' : World) : Prop := Did x.S x.A x.last x.n x.t w e w'
end Go.Proofs.Ytfdfgnmgpgkknaa.gc
namespace Go.Proofs.Ytfdfgnmgpgkknaa.gx
open Go.RowKit

theorem ret_int {k : IntKind} {a b : Int} (h : a = b) : Ending.returned (.int k a) = .returned (.int k b) := by rw [h]
theorem ret_bool {a b : Bool} (h : a = b) : Ending.returned (.bool a) = .returned (.bool b) := by rw [h]
theorem ret_int2 {k l : IntKind} {a b c d : Int} (h : a = b) (h' : c = d) : Ending.returned (.tuple #[.int k a, .int l c]) = .returned (.tuple #[.int k b, .int l d]) := by rw [h, h']

def AllB (xs : List Int) : Prop := ∀ x ∈ xs, 0 ≤ x ∧ x < 256
theorem AllB.append {xs ys : List Int} (h : AllB xs) (k : AllB ys) : AllB (xs ++ ys) := fun x hx => by
  rcases List.mem_append.mp hx with hx | hx
  · exact h x hx
  · exact k x hx
theorem AllB.drop {xs : List Int} (h : AllB xs) (n : Nat) : AllB (xs.drop n) := fun x hx => h x (List.mem_of_mem_drop hx)
theorem AllB.take {xs : List Int} (h : AllB xs) (n : Nat) : AllB (xs.take n) := fun x hx => h x (List.mem_of_mem_take hx)
theorem allB_nil : AllB [] := fun x hx => by cases hx
theorem allB_getD {xs : List Int} (h : AllB xs) (k : Nat) : 0 ≤ xs.getD k 0 ∧ xs.getD k 0 < 256 := by
  rw [List.getD_eq_getElem?_getD]
  rcases Nat.lt_or_ge k xs.length with hk | hk
  · rw [List.getElem?_eq_getElem hk]
    exact h _ (List.getElem_mem hk)
  · rw [List.getElem?_eq_none hk]
    decide

/-- A text as numbers. -/
def nums (s : ByteArray) : List Int := s.data.toList.map fun u => (u.toNat : Int)
theorem nums_length (s : ByteArray) : (nums s).length = s.size := by simp [nums]
theorem nums_all (s : ByteArray) : AllB (nums s) := by
  intro x hx
  obtain ⟨u, _, rfl⟩ := List.mem_map.mp hx
  have := u.toNat_lt
  omega
theorem nums_at (s : ByteArray) (k : Nat) (h : k < s.size) : ((s[k]'h).toNat : Int) = (nums s).getD k 0 := by
  rw [List.getD_eq_getElem?_getD, nums, List.getElem?_map, List.getElem?_eq_getElem (by simpa using h)]
  rfl
theorem nums_str (xs : List Int) (h : AllB xs) : nums (strOfNums xs) = xs := by
  unfold nums
  rw [show (strOfNums xs).data.toList = xs.map fun n => UInt8.ofNat n.toNat from rfl, List.map_map]
  conv => rhs; rw [← List.map_id xs]
  apply List.map_congr_left
  intro x hx
  have := h x hx
  simp
  omega
theorem str_nums (s : ByteArray) : strOfNums (nums s) = s := by
  apply ByteArray.ext
  apply Array.ext'
  rw [strOfNums_data]
  unfold nums
  rw [List.map_map]
  conv => rhs; rw [← List.map_id s.data.toList]
  apply List.map_congr_left
  intro u _
  simp
theorem str_append (xs ys : List Int) : strOfNums xs ++ strOfNums ys = strOfNums (xs ++ ys) := by
  unfold strOfNums
  rw [ByteArray.mk_append_mk, List.map_append]
/-- The right number that all calls take n as. -/
def near (n : Int) : Int := if n < 0 then 0 else if 1099511627776 < n then 1099511627776 else n
theorem near_range (n : Int) : 0 ≤ near n ∧ near n ≤ 1099511627776 := by unfold near; split <;> (try split) <;> omega
theorem near_of (n : Int) (h0 : 0 ≤ n) (h1 : n ≤ 1099511627776) : near n = n := by unfold near; split <;> (try split) <;> omega
theorem seqB {w w1 w2 : World} (h1 : Below w.heap.size w w1) (h2 : Below w1.heap.size w1 w2) : Below w.heap.size w w2 := h1.trans (h2.mono h1.size)
theorem frozen_at {w : World} {g i : Nat} {cs : Array Value} {t : TypeId} (h : w.heap[g]? = some (.cells cs t (0, 0))) : w.frozen? ⟨g, i, none⟩ = false := by simp [World.frozen?, h]
theorem blk_lt {w : World} {g : Nat} {o : Obj} (h : w.heap[g]? = some o) : g < w.heap.size := (Array.getElem?_eq_some_iff.1 h).1

/-! Words. -/
def wordL (k : Int) : List Int :=
  if k = 1 then [108, 97, 116, 101, 110, 99, 121] else if k = 2 then [98, 97, 110, 100, 119, 105, 100, 116, 104] else if k = 3 then [115, 108, 105, 99, 101, 114]
  else if k = 4 then [116, 105, 109, 101, 111, 117, 116] else if k = 5 then [114, 101, 115, 101, 116, 95, 112, 101, 101, 114]
  else if k = 6 then [108, 105, 109, 105, 116, 95, 100, 97, 116, 97] else if k = 7 then [115, 108, 111, 119, 95, 99, 108, 111, 115, 101] else []
def wordB (k : Int) : ByteArray := strOfNums (wordL k)
theorem ret_strB {a b : ByteArray} (h : a = b) : Ending.returned (.string a) = .returned (.string b) := by rw [h]
/-- How many numbers a kind has. -/
def numsB (k : Int) : Int := if k < 1 ∨ 7 < k then 0 else if k ≤ 3 then 2 else 1
/-- A word's kind. -/
def kindB (s : ByteArray) : Int := if wordB 1 = s then 1 else if wordB 2 = s then 2 else if wordB 3 = s then 3 else if wordB 4 = s then 4 else if wordB 5 = s then 5 else if wordB 6 = s then 6 else if wordB 7 = s then 7 else 0
theorem kind_is (s : ByteArray) (k : Nat) (h1 : 1 ≤ k) (h7 : k ≤ 7) (hk : wordB (k : Int) = s) (hn : ∀ j : Nat, 1 ≤ j → j < k → ¬ wordB (j : Int) = s) : kindB s = k := by
  have n1 : 1 < k → ¬ wordB 1 = s := fun h => hn 1 (by omega) h
  have n2 : 2 < k → ¬ wordB 2 = s := fun h => hn 2 (by omega) h
  have n3 : 3 < k → ¬ wordB 3 = s := fun h => hn 3 (by omega) h
  have n4 : 4 < k → ¬ wordB 4 = s := fun h => hn 4 (by omega) h
  have n5 : 5 < k → ¬ wordB 5 = s := fun h => hn 5 (by omega) h
  have n6 : 6 < k → ¬ wordB 6 = s := fun h => hn 6 (by omega) h
  have n7 : 7 < k → ¬ wordB 7 = s := fun h => hn 7 (by omega) h
  unfold kindB
  rcases (show k = 1 ∨ k = 2 ∨ k = 3 ∨ k = 4 ∨ k = 5 ∨ k = 6 ∨ k = 7 by omega) with rfl | rfl | rfl | rfl | rfl | rfl | rfl
  · rw [if_pos (show wordB 1 = s from hk)]; rfl
  · rw [if_neg (n1 (by omega)), if_pos (show wordB 2 = s from hk)]; rfl
  · rw [if_neg (n1 (by omega)), if_neg (n2 (by omega)), if_pos (show wordB 3 = s from hk)]; rfl
  · rw [if_neg (n1 (by omega)), if_neg (n2 (by omega)), if_neg (n3 (by omega)), if_pos (show wordB 4 = s from hk)]; rfl
  · rw [if_neg (n1 (by omega)), if_neg (n2 (by omega)), if_neg (n3 (by omega)), if_neg (n4 (by omega)), if_pos (show wordB 5 = s from hk)]; rfl
  · rw [if_neg (n1 (by omega)), if_neg (n2 (by omega)), if_neg (n3 (by omega)), if_neg (n4 (by omega)), if_neg (n5 (by omega)), if_pos (show wordB 6 = s from hk)]; rfl
  · rw [if_neg (n1 (by omega)), if_neg (n2 (by omega)), if_neg (n3 (by omega)), if_neg (n4 (by omega)), if_neg (n5 (by omega)), if_neg (n6 (by omega)), if_pos (show wordB 7 = s from hk)]; rfl
theorem kind_none (s : ByteArray) (hn : ∀ j : Nat, 1 ≤ j → j ≤ 7 → ¬ wordB (j : Int) = s) : kindB s = 0 := by
  have n1 : ¬ wordB 1 = s := hn 1 (by omega) (by omega)
  have n2 : ¬ wordB 2 = s := hn 2 (by omega) (by omega)
  have n3 : ¬ wordB 3 = s := hn 3 (by omega) (by omega)
  have n4 : ¬ wordB 4 = s := hn 4 (by omega) (by omega)
  have n5 : ¬ wordB 5 = s := hn 5 (by omega) (by omega)
  have n6 : ¬ wordB 6 = s := hn 6 (by omega) (by omega)
  have n7 : ¬ wordB 7 = s := hn 7 (by omega) (by omega)
  unfold kindB
  rw [if_neg n1, if_neg n2, if_neg n3, if_neg n4, if_neg n5, if_neg n6, if_neg n7]
theorem beq_list {a b : ByteArray} (h : ¬ a = b) : (a.toList == b.toList) = false := by
  rw [beq_eq_false_iff_ne]
  intro e
  apply h
  rw [Lib.toList_data, Lib.toList_data] at e
  exact ByteArray.ext (Array.ext' e)
/-- A name's signs. -/
def signB (c : Int) : Bool := decide (97 ≤ c ∧ c ≤ 122) || decide (48 ≤ c ∧ c ≤ 57) || decide (c = 95) || decide (c = 45)
def nameB (s : ByteArray) : Bool := (nums s).all signB && decide (0 < s.size ∧ s.size ≤ 16)
end Go.Proofs.Ytfdfgnmgpgkknaa.gx
namespace Go.Proofs.Ytfdfgnmgpgkknaa.gx
open Go.RowKit

theorem name_bad {s : ByteArray} {k : Nat} (hk : k < s.size) (h : signB ((nums s).getD k 0) = false) : nameB s = false := by
  have hm : (nums s).getD k 0 ∈ nums s := by
    rw [List.getD_eq_getElem?_getD, List.getElem?_eq_getElem (by rw [nums_length]; exact hk)]
    exact List.getElem_mem _
  have : (nums s).all signB = false := by
    rw [List.all_eq_false]
    exact ⟨_, hm, by rw [h]; simp⟩
  unfold nameB
  rw [this, Bool.false_and]
theorem name_good {s : ByteArray} (h : ∀ k, k < s.size → signB ((nums s).getD k 0) = true) : nameB s = decide (0 < s.size ∧ s.size ≤ 16) := by
  have : (nums s).all signB = true := by
    rw [List.all_eq_true]
    intro x hx
    obtain ⟨k, hk, rfl⟩ := List.getElem_of_mem hx
    have := h k (by rw [← nums_length]; exact hk)
    rw [List.getD_eq_getElem?_getD, List.getElem?_eq_getElem hk] at this
    exact this
  unfold nameB
  rw [this, Bool.true_and]
/-- May a kind's numbers be? -/
def partsB (k a b : Int) : Bool :=
  (near a == a) && (near b == b) &&
    (if k = 1 then decide (b ≤ a) else if k = 2 then decide (1 ≤ b ∧ b ≤ 4096) else if k = 3 then decide (1 ≤ a ∧ a ≤ 4096) else if k = 4 ∨ k = 5 then decide (0 < a ∧ b = 0) else decide (b = 0))
def checkB (s : ByteArray) (k o a b : Int) : Int :=
  if nameB s = false then 90 else if k < 1 ∨ 7 < k then 91 else if o < 0 ∨ 100 < o ∨ partsB k a b = false then 92 else 0
/-- What numbers answers. -/
def Parts (k a b : Int) (w : World) (e : Ending) (w' : World) : Prop := e = .returned (.bool (partsB k a b)) ∧ Below w.heap.size w w'
/-- What Check answers. -/
def Chk (s : ByteArray) (k o a b : Int) (w : World) (e : Ending) (w' : World) : Prop := e = .returned (.int .i64 (checkB s k o a b)) ∧ Below w.heap.size w w'
end Go.Proofs.Ytfdfgnmgpgkknaa.gx

/-
  Contract: what lays one more byte to a word between quotes. Conditions: as each states.
-/
import Derived.Test.YtngnkkigjlenoaaGreatDoorC
import Derived.Deep.RegionHeldLaw
import Derived.Deep.RegionLaw
import Derived.Laws.NewBlocks
import Derived.Deep.RegionHeld3
namespace Go.Proofs.YtngnkkigjlenoaaGreatDoor
open Go.RowKit

/-- The blocks of a word between quotes: the line, the place, the word so far. -/
structure QW (w : World) (B : Nat) (s : ByteArray) (w' : World) (k : Nat) (acc : List Int) : Prop where
  line : w'.heap[B]? = some (.cells #[.string s] 9 (0, 0))
  at' : w'.heap[B + 1]? = some (.cells #[.int .i64 k] 3 (0, 0))
  wrd : ∃ v, w'.heap[B + 2]? = some (.cells #[v] 40 (0, 0)) ∧ w'.ownsRow (B + 3) 5 1 v acc.length (acc.map (Value.int .u8))
  low : Below B w w'
theorem QW.sz {w : World} {B : Nat} {s : ByteArray} {w' : World} {k : Nat} {acc : List Int} (h : QW w B s w' k acc) : B + 3 ≤ w'.heap.size := by
  obtain ⟨v, h1, _⟩ := h.wrd
  have := blk_lt h1
  omega
theorem QW.on {w : World} {B : Nat} {s : ByteArray} {w' w2 : World} {k : Nat} {acc : List Int} (h : QW w B s w' k acc) (hb : Below w'.heap.size w' w2) : QW w B s w2 k acc := by
  have hs := h.sz
  obtain ⟨v, h1, h2⟩ := h.wrd
  exact ⟨(hb.block _ (blk_lt h.line)).trans h.line, (hb.block _ (blk_lt h.at')).trans h.at', ⟨v, (hb.block _ (blk_lt h1)).trans h1, own_on h2 hb⟩, h.low.trans (hb.mono (by omega))⟩
theorem cell0 {w : World} {g : Nat} {v : Value} {t : TypeId} {f : Nat × Nat} (h : w.heap[g]? = some (.cells #[v] t f)) : w.cell? ⟨g, 0, none⟩ = some v := cell_of_row _ g 0 _ _ _ h
theorem own_far {w : World} {base T K n : Nat} {v : Value} {zs : List Value} (h : w.ownsRow base T K v n zs) {g i : Nat} (u : Value) (hg : g < base) : (w.setCell ⟨g, i, none⟩ u).ownsRow base T K v n zs := by
  obtain ⟨hl, h0 | ⟨b, cap, cur, e, hb, hh, r⟩⟩ := h
  · exact ⟨hl, Or.inl h0⟩
  · exact ⟨hl, Or.inr ⟨b, cap, cur, e, hb, (heap_setCell_other w ⟨g, i, none⟩ b u (by show b ≠ g; omega)).trans hh, r⟩⟩
theorem set_one {w : World} {g : Nat} {v : Value} {t : TypeId} (h : w.heap[g]? = some (.cells #[v] t (0, 0))) (u : Value) : (w.setCell ⟨g, 0, none⟩ u).heap[g]? = some (.cells #[u] t (0, 0)) := heap_setCell_same w g 0 _ t u h
theorem set_far {w : World} {g k : Nat} {o : Obj} (h : w.heap[k]? = some o) (u : Value) (hk : k ≠ g) : (w.setCell ⟨g, 0, none⟩ u).heap[k]? = some o := (heap_setCell_other w ⟨g, 0, none⟩ k u hk).trans h
set_option maxHeartbeats 4000000 in
theorem put_any {w : World} {B : Nat} {s : ByteArray} {wr : World} {k : Nat} {acc : List Int} (h : QW w B s wr k acc) (hk : k < s.size) (ha : acc.length ≤ 100000) :
    Calls Tryz.prog 35 #[.pointer (some ⟨B + 2, 0, none⟩), .pointer (some ⟨B, 0, none⟩), .pointer (some ⟨B + 1, 0, none⟩)] wr fun e w' => e = .returned (.tuple #[]) ∧ QW w B s w' k (acc ++ [(nums s).getD k 0]) := by
  have hsz := h.sz
  have hx := nums_at s k hk
  obtain ⟨v, hv, hown⟩ := h.wrd
  have c0 := cell0 hv
  have c1 := cell0 h.line
  have c2 := cell0 h.at'
  have f0 : wr.frozen? ⟨B + 2, 0, none⟩ = false := frozen_at hv
  obtain ⟨v', w1, r1, r2, r3⟩ := app_one (w0 := wr) (own_on hown (Below.refl _ wr).drew) (by show B + 3 ≤ wr.heap.size; omega) (Below.refl (B + 3) wr).drew (by omega) ((nums s).getD k 0) 40
  obtain ⟨p', c', rfl, _⟩ := own_bytes r2
  generalize (nums s).getD k 0 = x at *
  have mixed : Tryz.prog.follows .mixedOrders = true := by kernel_rfl
  have c3 : (wr.alloc (.cells #[.int .u8 x] 5)).cell? ⟨B + 2, 0, none⟩ = some v := by
    rw [World.cell?_alloc_past _ _ _ (show B + 2 < wr.heap.size by omega)]
    exact c0
  have HR := Lib.hid (show ∀ ty, (Builtin.append_ #[40, 40] ty #[v, .slice (some ⟨wr.heap.size, 0, none⟩) 1 1]).run Tryz.prog ((wr.alloc (.cells #[.int .u8 x] 5)).drew) = .ok (.slice p' (acc.length + 1) c') w1 from fun _ => r1)
  have k1 := r3.block (B + 2) (by omega)
  have e1 := k1.trans hv
  have f1 : w1.cell? ⟨B + 2, 0, none⟩ = some v := cell0 e1
  have f2 : w1.frozen? ⟨B + 2, 0, none⟩ = false := frozen_at e1
  have HQ : Hid (QW w B s (w1.setCell ⟨B + 2, 0, none⟩ (.slice p' (acc.length + 1) c')) k (acc ++ [x])) := Lib.hid ⟨set_far ((r3.block B (by omega)).trans h.line) _ (by omega), set_far ((r3.block (B + 1) (by omega)).trans h.at') _ (by omega), ⟨_, set_one e1 _, own_far (by rw [List.length_append]; exact r2) _ (by omega)⟩, (h.low.trans (r3.mono (by omega))).setCell (p := ⟨B + 2, 0, none⟩) (by show B ≤ B + 2; omega) _⟩
  clear r1 r2 r3 k1 e1 hv hown h
  go_enter Tryz.func35, Tryz.ntmps35
  go_wp2_with fail
  go_region_law (refine step_append_eq rfl (.tmp 3) (.tmp 7) 40 40 rfl v (.slice (some ⟨wr.heap.size, 0, none⟩) 1 1) rfl rfl HR.out ?_)
  all_goals go_wp2_with fail
  all_goals go_end0
  all_goals exact ⟨rfl, HQ.out⟩
end Go.Proofs.YtngnkkigjlenoaaGreatDoor

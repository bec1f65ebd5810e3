/-
  Contract: what the document's own Do answers. Conditions: as each states.
-/
import Derived.Test.YtpohfcjmjfhdoaaD3
import Derived.Test.YtpohfcjmjfhdoaaD4
namespace Go.Proofs.Ytpohfcjmjfhdoaa
open Go.RowKit

/-- The row's block is one of the document's alarms. -/
def Typed (w : World) (p : Option Addr) (n : Nat) : Prop := 0 < n → ∃ a cs fr, p = some a ∧ w.heap[a.block]? = some (.cells cs 46 fr)
/-- A row that is told: its alarms, where they lie. -/
def RowIn (w : World) (p : Option Addr) (n c : Nat) (ds : List Due) : Prop := ds.length = n ∧ n ≤ c ∧ c ≤ 9223372036854775807 ∧ DuesIn w p n ds ∧ Typed w p n
theorem typed_on {w w' : World} {p : Option Addr} {n : Nat} (h : Typed w p n) (hb : Below w.heap.size w w') : Typed w' p n := fun hn => by
  obtain ⟨a, cs, fr, e, hh⟩ := h hn
  exact ⟨a, cs, fr, e, (hb.block _ (blk_lt hh)).trans hh⟩
theorem row_on {w w' : World} {p : Option Addr} {n c : Nat} {ds : List Due} (h : RowIn w p n c ds) (hb : Below w.heap.size w w') : RowIn w' p n c ds := ⟨h.1, h.2.1, h.2.2.1, dues_on h.2.2.2.1 hb, typed_on h.2.2.2.2 hb⟩
theorem row_nil (w : World) (p : Option Addr) : RowIn w p 0 0 [] := ⟨rfl, Nat.le_refl _, by omega, dues_nil _ _ _, fun h => absurd h (Nat.lt_irrefl 0)⟩
/-- What Do hands back: the alarms, and an answer. -/
def Did (ds : List Due) (last N : Int) (is : Bool) (E : Int) (out : List Due) (w : World) (e : Ending) (w' : World) : Prop := ∃ p n c p' n' c', e = .returned (.tuple #[.agg #[.slice p n c, .int .i64 last], .agg #[.int .i64 N, .bool is, .int .i64 E, .slice p' n' c']]) ∧ RowIn w' p n c ds ∧ RowIn w' p' n' c' out ∧ Below w.heap.size w w'
theorem below4 (w : World) (o o' o'' o3 : Obj) : Below w.heap.size w ((((w.alloc o).alloc o').alloc o'').alloc o3) := ((((Below.refl _ _).alloc (Nat.le_refl _) _).alloc (by simp) _).alloc (by simp; omega) _).alloc (by simp; omega) _

theorem four_blocks {w w1 : World} {o0 o1 o2 o3 : Obj} (hb : Below ((((w.alloc o0).alloc o1).alloc o2).alloc o3).heap.size ((((w.alloc o0).alloc o1).alloc o2).alloc o3) w1) :
    w1.heap[w.heap.size]? = some o0 ∧ w1.heap[w.heap.size + 1]? = some o1 ∧ w1.heap[w.heap.size + 1 + 1]? = some o2 ∧ w1.heap[w.heap.size + 1 + 1 + 1]? = some o3 ∧ w.heap.size + 1 + 1 + 1 < w1.heap.size := by
  have hs := hb.size
  have s0 : (w.alloc o0).heap.size = w.heap.size + 1 := by simp
  have s1 : ((w.alloc o0).alloc o1).heap.size = w.heap.size + 1 + 1 := by simp
  have s2 : (((w.alloc o0).alloc o1).alloc o2).heap.size = w.heap.size + 1 + 1 + 1 := by simp
  have s3 : ((((w.alloc o0).alloc o1).alloc o2).alloc o3).heap.size = w.heap.size + 1 + 1 + 1 + 1 := by simp
  rw [s3] at hs hb
  refine ⟨?_, ?_, ?_, ?_, by omega⟩
  · rw [hb.block _ (by omega), Below.heap_alloc _ _ _ (by omega), Below.heap_alloc _ _ _ (by omega), Below.heap_alloc _ _ _ (by omega)]
    exact heap_alloc_new w o0
  · rw [hb.block _ (by omega), Below.heap_alloc _ _ _ (by omega), Below.heap_alloc _ _ _ (by omega)]
    have := heap_alloc_new (w.alloc o0) o1
    rw [s0] at this
    exact this
  · rw [hb.block _ (by omega), Below.heap_alloc _ _ _ (by omega)]
    have := heap_alloc_new ((w.alloc o0).alloc o1) o2
    rw [s1] at this
    exact this
  · rw [hb.block _ (by omega)]
    have := heap_alloc_new (((w.alloc o0).alloc o1).alloc o2) o3
    rw [s2] at this
    exact this
theorem set_heap {w : World} {g i : Nat} {cs : Array Value} {T : TypeId} {fr : Nat × Nat} (hg : w.heap[g]? = some (.cells cs T fr)) (u : Value) : (w.setCell ⟨g, i, none⟩ u).heap[g]? = some (.cells (cs.setIfInBounds i u) T fr) := by
  simp [World.setCell, Array.getElem?_modify, hg]
def set2 (w : World) (g : Nat) (a b : Value) : World := (w.setCell ⟨g, 0, none⟩ a).setCell ⟨g, 1, none⟩ b
def set4 (w : World) (g : Nat) (a b c d : Value) : World := (((w.setCell ⟨g, 0, none⟩ a).setCell ⟨g, 1, none⟩ b).setCell ⟨g, 2, none⟩ c).setCell ⟨g, 3, none⟩ d
theorem set2_heap {w : World} {g : Nat} {x y : Value} {T : TypeId} (h : w.heap[g]? = some (.cells #[x, y] T (0, 0))) (a b : Value) : (set2 w g a b).heap[g]? = some (.cells #[a, b] T (0, 0)) := by
  unfold set2
  rw [set_heap (set_heap h a)]
  rfl
theorem set4_heap {w : World} {g : Nat} {x y z t : Value} {T : TypeId} (h : w.heap[g]? = some (.cells #[x, y, z, t] T (0, 0))) (a b c d : Value) : (set4 w g a b c d).heap[g]? = some (.cells #[a, b, c, d] T (0, 0)) := by
  unfold set4
  rw [set_heap (set_heap (set_heap (set_heap h a) b) c)]
  rfl
theorem set2_far {w : World} {g k : Nat} (a b : Value) (h : k ≠ g) : (set2 w g a b).heap[k]? = w.heap[k]? := by
  unfold set2
  rw [Below.heap_setCell _ _ _ _ h, Below.heap_setCell _ _ _ _ h]
theorem set4_far {w : World} {g k : Nat} (a b c d : Value) (h : k ≠ g) : (set4 w g a b c d).heap[k]? = w.heap[k]? := by
  unfold set4
  rw [Below.heap_setCell _ _ _ _ h, Below.heap_setCell _ _ _ _ h, Below.heap_setCell _ _ _ _ h, Below.heap_setCell _ _ _ _ h]
theorem set2_below {B : Nat} {w0 w : World} {g : Nat} (h : Below B w0 w) (hg : B ≤ g) (a b : Value) : Below B w0 (set2 w g a b) := (h.setCell (p := ⟨g, 0, none⟩) hg a).setCell (p := ⟨g, 1, none⟩) hg b
theorem set4_below {B : Nat} {w0 w : World} {g : Nat} (h : Below B w0 w) (hg : B ≤ g) (a b c d : Value) : Below B w0 (set4 w g a b c d) := (((h.setCell (p := ⟨g, 0, none⟩) hg a).setCell (p := ⟨g, 1, none⟩) hg b).setCell (p := ⟨g, 2, none⟩) hg c).setCell (p := ⟨g, 3, none⟩) hg d
/-- A row of the call's own, wherever older blocks are written. -/
theorem row_of_own {w w' : World} {B M d : Nat} {q : Option Addr} {ds : List Due} (ho : w.ownsRow B 46 2 (.slice q M d) M (flat ds)) (h : ∀ k, B ≤ k → w'.heap[k]? = w.heap[k]?) : RowIn w' q M d ds := by
  obtain ⟨p', c', e, hl, hi, _, hc1, hc2⟩ := own_dues ho
  cases e
  refine ⟨hl, hc1, hc2, fun hn => ?_, fun hn => ?_⟩
  · obtain ⟨b, o, e, hc⟩ := hi hn
    have hbb := (ho.lt b (by rw [e]; rfl)).1
    refine ⟨b, o, e, fun i hi => ?_⟩
    rw [World.cell?_of_block (w := w) (h b hbb), World.cell?_of_block (w := w) (a := ⟨b, o + (i * 2 + 1), none⟩) (h b hbb)]
    exact hc i hi
  · rcases ho.2 with ⟨e, h0⟩ | ⟨b, cap, cur, e, hb, hh, _⟩
    · omega
    · cases e
      exact ⟨_, cur, _, rfl, (h b hb).trans hh⟩
set_option maxHeartbeats 4000000 in
theorem do_other (p : Option Addr) (n c : Nat) (ds : List Due) (last kind a id : Int) (w : World) (hr : RowIn w p n c ds) (h0 : ¬ kind = 0) (h1 : ¬ kind = 1) (h2 : ¬ kind = 2) (h3 : ¬ kind = 3) (h4 : ¬ kind = 4) :
    Calls Try.prog 12 #[.agg #[.slice p n c, .int .i64 last], .agg #[.int .i64 kind, .int .i64 a, .int .i64 id]] w (Did ds last 0 false 0 [] w) := by
  have HR := Lib.hid hr
  clear hr
  go_enter Try.func12, Try.ntmps12
  go_wp2_with fail
  refine (find_any p n c ds id _ HR.out.1 HR.out.2.1 HR.out.2.2.1 (row_on HR.out (below4 _ _ _ _ _)).2.2.2.1).mono ?_
  rintro e w1 ⟨rfl, rfl⟩
  go_wp2_with fail
  exact bodyPost_ret (v := .tuple #[.agg #[.slice p n c, .int .i64 last], .agg #[.int .i64 0, .bool false, .int .i64 0, .slice none 0 0]]) (by simp [results, Try.results12, go_sem]) rfl ⟨_, _, _, _, _, _, rfl, row_on HR.out (below4 _ _ _ _ _), row_nil _ _, below4 _ _ _ _ _⟩
set_option maxRecDepth 100000 in
set_option maxHeartbeats 4000000 in
theorem do_set (p : Option Addr) (n c : Nat) (ds : List Due) (last a id : Int) (w : World) (hr : RowIn w p n c ds) (hn : n ≤ 4000) (hl : 0 ≤ last ∧ last ≤ 4000) (ha : rightB a = true) :
    Calls Try.prog 12 #[.agg #[.slice p n c, .int .i64 last], .agg #[.int .i64 0, .int .i64 a, .int .i64 id]] w (Did (putD ds (a, last + 1)) (last + 1) (last + 1) false 0 [] w) := by
  have HR := Lib.hid hr
  have HRI := Lib.hid (show ∀ w, Calls Try.prog 27 #[.int .i64 a] w fun e w' => e = .returned (.bool true) ∧ w = w' from fun w => by rw [← ha]; exact right_any a w)
  obtain ⟨L, hL⟩ : ∃ L, last + 1 = L := ⟨_, rfl⟩
  have hw : IntKind.i64.wrap (last + 1) = L := by rw [IntWalk.i64_in _ (by omega), hL]
  rw [hL]
  have d1 : decide ((4096 : Int) ≤ (n : Int)) = false := by simp; omega
  have HN := Lib.hid hn
  clear hr ha hn hl hL
  go_enter Try.func12, Try.ntmps12
  go_wp2_with fail
  refine (find_any p n c ds id _ HR.out.1 HR.out.2.1 HR.out.2.2.1 (row_on HR.out (below4 _ _ _ _ _)).2.2.2.1).mono ?_
  rintro e w1 ⟨rfl, rfl⟩
  go_wp2_with fail
  refine (HRI.out _).mono ?_
  rintro e w1 ⟨rfl, rfl⟩
  go_wp2_with fail
  refine (put_any p n c ds a L _ HR.out.1 (by have := HN.out; omega) HR.out.2.1 HR.out.2.2.1 (row_on HR.out (below4 _ _ _ _ _)).2.2.2.1).mono ?_
  rintro e w1 ⟨q, d, rfl, ho, hb1⟩
  obtain ⟨b0, b1, b2, b3, hlt⟩ := four_blocks hb1
  have HB1 := Lib.hid (seqB (below4 _ _ _ _ _) hb1)
  have HO := Lib.hid ho
  have x00 : w1.cell? ⟨w.heap.size, 0, none⟩ = some (.slice p n c) := cell_of_row _ _ 0 _ _ _ b0
  have x01 : w1.cell? ⟨w.heap.size, 1, none⟩ = some (.int .i64 L) := cell_of_row _ _ 1 _ _ _ b0
  have x20 : w1.cell? ⟨w.heap.size + 1 + 1, 0, none⟩ = some (.slice none 0 0) := cell_of_row _ _ 0 _ _ _ b2
  have x21 : w1.cell? ⟨w.heap.size + 1 + 1, 1, none⟩ = some (.int .i64 0) := cell_of_row _ _ 1 _ _ _ b2
  have x30 : w1.cell? ⟨w.heap.size + 1 + 1 + 1, 0, none⟩ = some (.int .i64 0) := cell_of_row _ _ 0 _ _ _ b3
  have x31 : w1.cell? ⟨w.heap.size + 1 + 1 + 1, 1, none⟩ = some (.bool false) := cell_of_row _ _ 1 _ _ _ b3
  have x32 : w1.cell? ⟨w.heap.size + 1 + 1 + 1, 2, none⟩ = some (.int .i64 0) := cell_of_row _ _ 2 _ _ _ b3
  have x33 : w1.cell? ⟨w.heap.size + 1 + 1 + 1, 3, none⟩ = some (.slice none 0 0) := cell_of_row _ _ 3 _ _ _ b3
  have y00 : w1.frozen? ⟨w.heap.size, 0, none⟩ = false := frozen_at b0
  have y20 : w1.frozen? ⟨w.heap.size + 1 + 1, 0, none⟩ = false := frozen_at b2
  have y21 : w1.frozen? ⟨w.heap.size + 1 + 1, 1, none⟩ = false := frozen_at b2
  have y30 : w1.frozen? ⟨w.heap.size + 1 + 1 + 1, 0, none⟩ = false := frozen_at b3
  have y31 : w1.frozen? ⟨w.heap.size + 1 + 1 + 1, 1, none⟩ = false := frozen_at b3
  have y32 : w1.frozen? ⟨w.heap.size + 1 + 1 + 1, 2, none⟩ = false := frozen_at b3
  have y33 : w1.frozen? ⟨w.heap.size + 1 + 1 + 1, 3, none⟩ = false := frozen_at b3
  obtain ⟨M, HM⟩ : ∃ M, Hid ((putD ds (a, L)).length = M) := ⟨_, Lib.hid rfl⟩
  rw [HM.out] at HO ⊢
  have HBL := Lib.hid (And.intro (set_heap (i := 0) b0 (.slice q M d)) (And.intro ((Below.heap_setCell w1 ⟨w.heap.size, 0, none⟩ (.slice q M d) _ (by simp; omega)).trans b2) ((Below.heap_setCell w1 ⟨w.heap.size, 0, none⟩ (.slice q M d) _ (by simp; omega)).trans b3)))
  have HOW := Lib.hid (show (∀ w' : World, (∀ k, w.heap.size + 4 ≤ k → w'.heap[k]? = (w1.setCell ⟨w.heap.size, 0, none⟩ (.slice q M d)).heap[k]?) → RowIn w' q M d (putD ds (a, L))) ∧ Below w.heap.size w (w1.setCell ⟨w.heap.size, 0, none⟩ (.slice q M d)) from by
    refine ⟨fun w' h => row_of_own (own_low HO.out (base' := w.heap.size + 4) (by simp)) fun k hk => (h k hk).trans (Below.heap_setCell w1 ⟨w.heap.size, 0, none⟩ (.slice q M d) k (by simp; omega)), HB1.out.setCell (p := ⟨w.heap.size, 0, none⟩) (Nat.le_refl _) _⟩)
  clear ho hb1 b0 b1 b2 b3
  go_wp2_with fail
  generalize w1.setCell ⟨w.heap.size, 0, none⟩ (.slice q M d) = w2 at *
  clear x00 x01 x20 x21 x30 x31 x32 x33 y00 y20 y21 y30 y31 y32 y33
  have x00 : w2.cell? ⟨w.heap.size, 0, none⟩ = some (.slice q M d) := cell_of_row _ _ 0 _ _ _ HBL.out.1
  have x01 : w2.cell? ⟨w.heap.size, 1, none⟩ = some (.int .i64 L) := cell_of_row _ _ 1 _ _ _ HBL.out.1
  have x20 : w2.cell? ⟨w.heap.size + 1 + 1, 0, none⟩ = some (.slice none 0 0) := cell_of_row _ _ 0 _ _ _ HBL.out.2.1
  have x21 : w2.cell? ⟨w.heap.size + 1 + 1, 1, none⟩ = some (.int .i64 0) := cell_of_row _ _ 1 _ _ _ HBL.out.2.1
  have x30 : w2.cell? ⟨w.heap.size + 1 + 1 + 1, 0, none⟩ = some (.int .i64 0) := cell_of_row _ _ 0 _ _ _ HBL.out.2.2
  have x31 : w2.cell? ⟨w.heap.size + 1 + 1 + 1, 1, none⟩ = some (.bool false) := cell_of_row _ _ 1 _ _ _ HBL.out.2.2
  have x32 : w2.cell? ⟨w.heap.size + 1 + 1 + 1, 2, none⟩ = some (.int .i64 0) := cell_of_row _ _ 2 _ _ _ HBL.out.2.2
  have x33 : w2.cell? ⟨w.heap.size + 1 + 1 + 1, 3, none⟩ = some (.slice none 0 0) := cell_of_row _ _ 3 _ _ _ HBL.out.2.2
  have y20 : ∀ i, w2.frozen? ⟨w.heap.size + 1 + 1, i, none⟩ = false := fun i => frozen_at HBL.out.2.1
  have y30 : ∀ i, w2.frozen? ⟨w.heap.size + 1 + 1 + 1, i, none⟩ = false := fun i => frozen_at HBL.out.2.2
  go_region
  have hz2 := set2_heap HBL.out.2.1 (.slice q M d) (.int .i64 L)
  have hz3 := set4_heap ((set2_far (g := w.heap.size + 1 + 1) (.slice q M d) (.int .i64 L) (by omega)).trans HBL.out.2.2) (.int .i64 L) (.bool false) (.int .i64 0) (.slice none 0 0)
  have hz4 := (set4_far (w := set2 w2 (w.heap.size + 1 + 1) (.slice q M d) (.int .i64 L)) (g := w.heap.size + 1 + 1 + 1) (.int .i64 L) (.bool false) (.int .i64 0) (.slice none 0 0) (by omega)).trans hz2
  have hbw := set4_below (set2_below HOW.out.2 (g := w.heap.size + 1 + 1) (by omega) (.slice q M d) (.int .i64 L)) (g := w.heap.size + 1 + 1 + 1) (by omega) (.int .i64 L) (.bool false) (.int .i64 0) (.slice none 0 0)
  have hrow := HOW.out.1 (set4 (set2 w2 (w.heap.size + 1 + 1) (.slice q M d) (.int .i64 L)) (w.heap.size + 1 + 1 + 1) (.int .i64 L) (.bool false) (.int .i64 0) (.slice none 0 0)) (fun k hk => (set4_far _ _ _ _ (by omega)).trans (set2_far _ _ (by omega)))
  have HF := Lib.hid (And.intro hrow hbw)
  have HZ := Lib.hid (And.intro hz4 hz3)
  clear hz2 hz3 hz4 hbw hrow
  generalize hW : set4 (set2 w2 (w.heap.size + 1 + 1) (.slice q M d) (.int .i64 L)) (w.heap.size + 1 + 1 + 1) (.int .i64 L) (.bool false) (.int .i64 0) (.slice none 0 0) = W at *
  unfold set4 set2 at hW
  rw [hW]
  clear hW
  have z20 : W.drew.cell? ⟨w.heap.size + 1 + 1, 0, none⟩ = some (.slice q M d) := cell_of_row W _ 0 _ _ _ HZ.out.1
  have z21 : W.drew.cell? ⟨w.heap.size + 1 + 1, 1, none⟩ = some (.int .i64 L) := cell_of_row W _ 1 _ _ _ HZ.out.1
  have z30 : W.drew.cell? ⟨w.heap.size + 1 + 1 + 1, 0, none⟩ = some (.int .i64 L) := cell_of_row W _ 0 _ _ _ HZ.out.2
  have z31 : W.drew.cell? ⟨w.heap.size + 1 + 1 + 1, 1, none⟩ = some (.bool false) := cell_of_row W _ 1 _ _ _ HZ.out.2
  have z32 : W.drew.cell? ⟨w.heap.size + 1 + 1 + 1, 2, none⟩ = some (.int .i64 0) := cell_of_row W _ 2 _ _ _ HZ.out.2
  have z33 : W.drew.cell? ⟨w.heap.size + 1 + 1 + 1, 3, none⟩ = some (.slice none 0 0) := cell_of_row W _ 3 _ _ _ HZ.out.2
  have HD := Lib.hid (show RowIn W.drew q M d (putD ds (a, L)) ∧ Below w.heap.size w W.drew from ⟨row_on HF.out.1 (Below.refl _ _).drew, HF.out.2.drew⟩)
  generalize W.drew = V at *
  go_wp2_with fail
  exact bodyPost_ret (v := .tuple #[.agg #[.slice q M d, .int .i64 L], .agg #[.int .i64 L, .bool false, .int .i64 0, .slice none 0 0]]) (by simp [results, Try.results12, go_sem, z20, z21, z30, z31, z32, z33]) rfl ⟨_, _, _, _, _, _, rfl, HD.out.1, row_nil _ _, HD.out.2⟩
end Go.Proofs.Ytpohfcjmjfhdoaa

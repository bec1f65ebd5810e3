/-
  Contract: what the document's own Do answers. Conditions: as each states.
-/
import Derived.Test.YtmblgpejgdlakaaA4
namespace Go.Proofs.Ytmblgpejgdlakaa
open Go.RowKit

theorem below3 (w : World) (o o' o'' : Obj) : Below w.heap.size w (((w.alloc o).alloc o').alloc o'') := (((Below.refl _ _).alloc (Nat.le_refl _) _).alloc (by simp) _).alloc (by simp; omega) _
theorem three_blocks {w w1 : World} {o0 o1 o2 : Obj} (hb : Below (((w.alloc o0).alloc o1).alloc o2).heap.size (((w.alloc o0).alloc o1).alloc o2) w1) :
    w1.heap[w.heap.size]? = some o0 ∧ w1.heap[w.heap.size + 1]? = some o1 ∧ w1.heap[w.heap.size + 1 + 1]? = some o2 ∧ w.heap.size + 1 + 1 < w1.heap.size := by
  have hs := hb.size
  have s0 : (w.alloc o0).heap.size = w.heap.size + 1 := by simp
  have s1 : ((w.alloc o0).alloc o1).heap.size = w.heap.size + 1 + 1 := by simp
  have s2 : (((w.alloc o0).alloc o1).alloc o2).heap.size = w.heap.size + 1 + 1 + 1 := by simp
  rw [s2] at hs hb
  refine ⟨?_, ?_, ?_, by omega⟩
  · rw [hb.block _ (by omega), Below.heap_alloc _ _ _ (by omega), Below.heap_alloc _ _ _ (by omega)]
    exact heap_alloc_new w o0
  · rw [hb.block _ (by omega), Below.heap_alloc _ _ _ (by omega)]
    have := heap_alloc_new (w.alloc o0) o1
    rw [s0] at this
    exact this
  · rw [hb.block _ (by omega)]
    have := heap_alloc_new ((w.alloc o0).alloc o1) o2
    rw [s1] at this
    exact this
/-- A row of ticks stays where blocks of another kind are written. -/
theorem rowA_other {w w' : World} {p : Option Addr} {n c : Nat} {xs : List Int} {g : Nat} {cs : Array Value} {T : TypeId} {fr : Nat × Nat} (h : RowA w p n c xs) (hg : w.heap[g]? = some (.cells cs T fr)) (hT : T ≠ 3) (hw : ∀ k, k ≠ g → w'.heap[k]? = w.heap[k]?) : RowA w' p n c xs := by
  have hne : ∀ {a : Addr} {cs' fr'}, w.heap[a.block]? = some (.cells cs' 3 fr') → a.block ≠ g := fun hh e => by
    rw [e, hg] at hh
    simp at hh
    exact hT hh.2.1
  refine ⟨h.1, h.2.1, h.2.2.1, fun hn => ?_, h.2.2.2.2.1, fun hn => ?_⟩
  · obtain ⟨b, o, e, hc⟩ := h.2.2.2.1 hn
    obtain ⟨a, cs', fr', e', hh⟩ := h.2.2.2.2.2 hn
    rw [e] at e'
    cases e'
    refine ⟨b, o, e, fun i hi => ?_⟩
    rw [World.cell?_of_block (w := w) (w' := w') (a := ⟨b, o + i, none⟩) (hw b (hne hh))]
    exact hc i hi
  · obtain ⟨a, cs', fr', e', hh⟩ := h.2.2.2.2.2 hn
    exact ⟨a, cs', fr', e', (hw _ (hne hh)).trans hh⟩
theorem rowA_set3 {w : World} {p : Option Addr} {n c : Nat} {xs : List Int} {g : Nat} {cs : Array Value} {fr : Nat × Nat} (h : RowA w p n c xs) (hg : w.heap[g]? = some (.cells cs 29 fr)) (a b d : Value) : RowA (set3 w g a b d) p n c xs :=
  rowA_other h hg (by decide) (fun _ hk => set3_far _ _ _ hk)
/-- What Do hands back. -/
def Did (S : ByteArray) (A : List Int) (last N : Int) (T : ByteArray) (w : World) (e : Ending) (w' : World) : Prop := ∃ p n c, e = .returned (.tuple #[.agg #[.string S, .slice p n c, .int .i64 last], .int .i64 N, .string T]) ∧ RowA w' p n c A ∧ Below w.heap.size w w'
set_option maxRecDepth 100000 in
set_option maxHeartbeats 8000000 in
theorem do_put0 (S s : ByteArray) (p : Option Addr) (n c : Nat) (A : List Int) (last a N : Int) (w : World) (hr : RowA w p n c A) (hs : s = ⟨#[]⟩) :
    Calls Try.prog 13 #[.agg #[.string S, .slice p n c, .int .i64 last], .agg #[.int .i64 0, .int .i64 a, .int .i64 N, .string s]] w (Did S A last (putT last a) ⟨#[]⟩ w) := by
  have HR := Lib.hid hr
  subst hs
  have HC := Lib.hid (fun w' h => rput_none S p n c A last a w' h)
  clear hr
  obtain ⟨P, HP⟩ : ∃ P, Hid (putT last a = P) := ⟨_, Lib.hid rfl⟩
  rw [HP.out] at HC ⊢
  have HB0 := Lib.hid (below3 w (.cells #[.string S, .slice p n c, .int .i64 last] 29) (.cells #[.int .i64 0, .int .i64 a, .int .i64 N, .string ⟨#[]⟩] 31) (.cells #[.string ⟨#[]⟩, .slice none 0 0, .int .i64 0] 29))
  have h3 := three_blocks (Below.refl _ (((w.alloc (.cells #[.string S, .slice p n c, .int .i64 last] 29)).alloc (.cells #[.int .i64 0, .int .i64 a, .int .i64 N, .string ⟨#[]⟩] 31)).alloc (.cells #[.string ⟨#[]⟩, .slice none 0 0, .int .i64 0] 29)))
  have x0 : (((w.alloc (.cells #[.string S, .slice p n c, .int .i64 last] 29)).alloc (.cells #[.int .i64 0, .int .i64 a, .int .i64 N, .string ⟨#[]⟩] 31)).alloc (.cells #[.string ⟨#[]⟩, .slice none 0 0, .int .i64 0] 29)).cell? ⟨w.heap.size, 0, none⟩ = some (.string S) := cell_of_row _ _ 0 _ _ _ h3.1
  have x1 : (((w.alloc (.cells #[.string S, .slice p n c, .int .i64 last] 29)).alloc (.cells #[.int .i64 0, .int .i64 a, .int .i64 N, .string ⟨#[]⟩] 31)).alloc (.cells #[.string ⟨#[]⟩, .slice none 0 0, .int .i64 0] 29)).cell? ⟨w.heap.size, 1, none⟩ = some (.slice p n c) := cell_of_row _ _ 1 _ _ _ h3.1
  have x2 : (((w.alloc (.cells #[.string S, .slice p n c, .int .i64 last] 29)).alloc (.cells #[.int .i64 0, .int .i64 a, .int .i64 N, .string ⟨#[]⟩] 31)).alloc (.cells #[.string ⟨#[]⟩, .slice none 0 0, .int .i64 0] 29)).cell? ⟨w.heap.size, 2, none⟩ = some (.int .i64 last) := cell_of_row _ _ 2 _ _ _ h3.1
  have o0 : (((w.alloc (.cells #[.string S, .slice p n c, .int .i64 last] 29)).alloc (.cells #[.int .i64 0, .int .i64 a, .int .i64 N, .string ⟨#[]⟩] 31)).alloc (.cells #[.string ⟨#[]⟩, .slice none 0 0, .int .i64 0] 29)).cell? ⟨w.heap.size + 1, 0, none⟩ = some (.int .i64 0) := cell_of_row _ _ 0 _ _ _ h3.2.1
  have o1 : (((w.alloc (.cells #[.string S, .slice p n c, .int .i64 last] 29)).alloc (.cells #[.int .i64 0, .int .i64 a, .int .i64 N, .string ⟨#[]⟩] 31)).alloc (.cells #[.string ⟨#[]⟩, .slice none 0 0, .int .i64 0] 29)).cell? ⟨w.heap.size + 1, 1, none⟩ = some (.int .i64 a) := cell_of_row _ _ 1 _ _ _ h3.2.1
  have o2 : (((w.alloc (.cells #[.string S, .slice p n c, .int .i64 last] 29)).alloc (.cells #[.int .i64 0, .int .i64 a, .int .i64 N, .string ⟨#[]⟩] 31)).alloc (.cells #[.string ⟨#[]⟩, .slice none 0 0, .int .i64 0] 29)).cell? ⟨w.heap.size + 1, 2, none⟩ = some (.int .i64 N) := cell_of_row _ _ 2 _ _ _ h3.2.1
  have o3 : (((w.alloc (.cells #[.string S, .slice p n c, .int .i64 last] 29)).alloc (.cells #[.int .i64 0, .int .i64 a, .int .i64 N, .string ⟨#[]⟩] 31)).alloc (.cells #[.string ⟨#[]⟩, .slice none 0 0, .int .i64 0] 29)).cell? ⟨w.heap.size + 1, 3, none⟩ = some (.string ⟨#[]⟩) := cell_of_row _ _ 3 _ _ _ h3.2.1
  clear h3
  go_enter Try.func13, Try.ntmps13
  go_wp2_with fail
  refine (HC.out _ (rowA_on HR.out HB0.out)).mono ?_
  rintro e w1 ⟨p1, n1, c1, rfl, hr1, hb1⟩
  clear HC
  have h3 := three_blocks hb1
  have HB1 := Lib.hid (seqB HB0.out hb1)
  have HR1 := Lib.hid hr1
  have hg := h3.2.2.1
  have y0 : w1.cell? ⟨w.heap.size + 1 + 1, 0, none⟩ = some (.string ⟨#[]⟩) := cell_of_row _ _ 0 _ _ _ hg
  have y1 : w1.cell? ⟨w.heap.size + 1 + 1, 1, none⟩ = some (.slice none 0 0) := cell_of_row _ _ 1 _ _ _ hg
  have y2 : w1.cell? ⟨w.heap.size + 1 + 1, 2, none⟩ = some (.int .i64 0) := cell_of_row _ _ 2 _ _ _ hg
  have f0 : w1.frozen? ⟨w.heap.size + 1 + 1, 0, none⟩ = false := frozen_at hg
  have f1 : w1.frozen? ⟨w.heap.size + 1 + 1, 1, none⟩ = false := frozen_at hg
  have f2 : w1.frozen? ⟨w.heap.size + 1 + 1, 2, none⟩ = false := frozen_at hg
  have hgl := h3.2.2.2
  have hz0 := set3_heap hg (.string S) (.slice p1 n1 c1) (.int .i64 last)
  have hd0 := set3_below (B := w.heap.size) (w0 := w) (w := w1) (g := w.heap.size + 1 + 1) HB1.out (by omega) (.string S) (.slice p1 n1 c1) (.int .i64 last)
  have hr0 := rowA_set3 HR1.out hg (.string S) (.slice p1 n1 c1) (.int .i64 last)
  have hal : Below (set3 w1 (w.heap.size + 1 + 1) (.string S) (.slice p1 n1 c1) (.int .i64 last)).heap.size (set3 w1 (w.heap.size + 1 + 1) (.string S) (.slice p1 n1 c1) (.int .i64 last)) ((set3 w1 (w.heap.size + 1 + 1) (.string S) (.slice p1 n1 c1) (.int .i64 last)).alloc (.cells #[.string S, .slice p1 n1 c1, .int .i64 last] 29)) := (Below.refl _ _).alloc (Nat.le_refl _) _
  have hz := (hal.block _ (blk_lt hz0)).trans hz0
  have HD := Lib.hid (seqB hd0 hal)
  have HRow := Lib.hid (rowA_on hr0 hal)
  clear hal hz0 hd0 hr0
  clear hb1 hr1 h3 hg x0 x1 x2 o0 o1 o2 o3
  go_wp2_with fail
  generalize hW : ((set3 w1 (w.heap.size + 1 + 1) (.string S) (.slice p1 n1 c1) (.int .i64 last)).alloc (.cells #[.string S, .slice p1 n1 c1, .int .i64 last] 29)) = W at *
  unfold set3 at hW
  rw [hW]
  clear hW
  have z0 : W.cell? ⟨w.heap.size + 1 + 1, 0, none⟩ = some (.string S) := cell_of_row W _ 0 _ _ _ hz
  have z1 : W.cell? ⟨w.heap.size + 1 + 1, 1, none⟩ = some (.slice p1 n1 c1) := cell_of_row W _ 1 _ _ _ hz
  have z2 : W.cell? ⟨w.heap.size + 1 + 1, 2, none⟩ = some (.int .i64 last) := cell_of_row W _ 2 _ _ _ hz
  exact bodyPost_ret (v := .tuple #[.agg #[.string S, .slice p1 n1 c1, .int .i64 last], .int .i64 P, .string ⟨#[]⟩]) (by simp [results, Try.results13, go_sem, z0, z1, z2]) rfl ⟨_, _, _, rfl, HRow.out, HD.out⟩
set_option maxRecDepth 100000 in
set_option maxHeartbeats 8000000 in
theorem do_put (S s : ByteArray) (p : Option Addr) (n c : Nat) (A : List Int) (last a N : Int) (w : World) (hr : RowA w p n c A) (hS : S.size = n) (hn : n ≤ 100000) (hs : s.size ≤ 100000) (h0 : 0 < s.size) :
    Calls Try.prog 13 #[.agg #[.string S, .slice p n c, .int .i64 last], .agg #[.int .i64 0, .int .i64 a, .int .i64 N, .string s]] w (Did (S ++ s) (A ++ List.replicate s.size (putT last a)) (putT last a) (putT last a) ⟨#[]⟩ w) := by
  have HR := Lib.hid hr
  have HC := Lib.hid (fun w' h => rput_some S s p n c A last a w' h hn hs (by omega) h0 rfl)
  clear hr hS hn hs h0
  obtain ⟨P, HP⟩ : ∃ P, Hid (putT last a = P) := ⟨_, Lib.hid rfl⟩
  obtain ⟨S1, HS1⟩ : ∃ P, Hid (S ++ s = P) := ⟨_, Lib.hid rfl⟩
  rw [HP.out, HS1.out] at HC ⊢
  have HB0 := Lib.hid (below3 w (.cells #[.string S, .slice p n c, .int .i64 last] 29) (.cells #[.int .i64 0, .int .i64 a, .int .i64 N, .string s] 31) (.cells #[.string ⟨#[]⟩, .slice none 0 0, .int .i64 0] 29))
  have h3 := three_blocks (Below.refl _ (((w.alloc (.cells #[.string S, .slice p n c, .int .i64 last] 29)).alloc (.cells #[.int .i64 0, .int .i64 a, .int .i64 N, .string s] 31)).alloc (.cells #[.string ⟨#[]⟩, .slice none 0 0, .int .i64 0] 29)))
  have x0 : (((w.alloc (.cells #[.string S, .slice p n c, .int .i64 last] 29)).alloc (.cells #[.int .i64 0, .int .i64 a, .int .i64 N, .string s] 31)).alloc (.cells #[.string ⟨#[]⟩, .slice none 0 0, .int .i64 0] 29)).cell? ⟨w.heap.size, 0, none⟩ = some (.string S) := cell_of_row _ _ 0 _ _ _ h3.1
  have x1 : (((w.alloc (.cells #[.string S, .slice p n c, .int .i64 last] 29)).alloc (.cells #[.int .i64 0, .int .i64 a, .int .i64 N, .string s] 31)).alloc (.cells #[.string ⟨#[]⟩, .slice none 0 0, .int .i64 0] 29)).cell? ⟨w.heap.size, 1, none⟩ = some (.slice p n c) := cell_of_row _ _ 1 _ _ _ h3.1
  have x2 : (((w.alloc (.cells #[.string S, .slice p n c, .int .i64 last] 29)).alloc (.cells #[.int .i64 0, .int .i64 a, .int .i64 N, .string s] 31)).alloc (.cells #[.string ⟨#[]⟩, .slice none 0 0, .int .i64 0] 29)).cell? ⟨w.heap.size, 2, none⟩ = some (.int .i64 last) := cell_of_row _ _ 2 _ _ _ h3.1
  have o0 : (((w.alloc (.cells #[.string S, .slice p n c, .int .i64 last] 29)).alloc (.cells #[.int .i64 0, .int .i64 a, .int .i64 N, .string s] 31)).alloc (.cells #[.string ⟨#[]⟩, .slice none 0 0, .int .i64 0] 29)).cell? ⟨w.heap.size + 1, 0, none⟩ = some (.int .i64 0) := cell_of_row _ _ 0 _ _ _ h3.2.1
  have o1 : (((w.alloc (.cells #[.string S, .slice p n c, .int .i64 last] 29)).alloc (.cells #[.int .i64 0, .int .i64 a, .int .i64 N, .string s] 31)).alloc (.cells #[.string ⟨#[]⟩, .slice none 0 0, .int .i64 0] 29)).cell? ⟨w.heap.size + 1, 1, none⟩ = some (.int .i64 a) := cell_of_row _ _ 1 _ _ _ h3.2.1
  have o2 : (((w.alloc (.cells #[.string S, .slice p n c, .int .i64 last] 29)).alloc (.cells #[.int .i64 0, .int .i64 a, .int .i64 N, .string s] 31)).alloc (.cells #[.string ⟨#[]⟩, .slice none 0 0, .int .i64 0] 29)).cell? ⟨w.heap.size + 1, 2, none⟩ = some (.int .i64 N) := cell_of_row _ _ 2 _ _ _ h3.2.1
  have o3 : (((w.alloc (.cells #[.string S, .slice p n c, .int .i64 last] 29)).alloc (.cells #[.int .i64 0, .int .i64 a, .int .i64 N, .string s] 31)).alloc (.cells #[.string ⟨#[]⟩, .slice none 0 0, .int .i64 0] 29)).cell? ⟨w.heap.size + 1, 3, none⟩ = some (.string s) := cell_of_row _ _ 3 _ _ _ h3.2.1
  clear h3
  go_enter Try.func13, Try.ntmps13
  go_wp2_with fail
  refine (HC.out _ (rowA_on HR.out HB0.out)).mono ?_
  rintro e w1 ⟨p1, n1, c1, rfl, hr1, hb1⟩
  clear HC
  have h3 := three_blocks hb1
  have HB1 := Lib.hid (seqB HB0.out hb1)
  have HR1 := Lib.hid hr1
  have hg := h3.2.2.1
  have y0 : w1.cell? ⟨w.heap.size + 1 + 1, 0, none⟩ = some (.string ⟨#[]⟩) := cell_of_row _ _ 0 _ _ _ hg
  have y1 : w1.cell? ⟨w.heap.size + 1 + 1, 1, none⟩ = some (.slice none 0 0) := cell_of_row _ _ 1 _ _ _ hg
  have y2 : w1.cell? ⟨w.heap.size + 1 + 1, 2, none⟩ = some (.int .i64 0) := cell_of_row _ _ 2 _ _ _ hg
  have f0 : w1.frozen? ⟨w.heap.size + 1 + 1, 0, none⟩ = false := frozen_at hg
  have f1 : w1.frozen? ⟨w.heap.size + 1 + 1, 1, none⟩ = false := frozen_at hg
  have f2 : w1.frozen? ⟨w.heap.size + 1 + 1, 2, none⟩ = false := frozen_at hg
  have hgl := h3.2.2.2
  have hz0 := set3_heap hg (.string S1) (.slice p1 n1 c1) (.int .i64 P)
  have hd0 := set3_below (B := w.heap.size) (w0 := w) (w := w1) (g := w.heap.size + 1 + 1) HB1.out (by omega) (.string S1) (.slice p1 n1 c1) (.int .i64 P)
  have hr0 := rowA_set3 HR1.out hg (.string S1) (.slice p1 n1 c1) (.int .i64 P)
  have hal : Below (set3 w1 (w.heap.size + 1 + 1) (.string S1) (.slice p1 n1 c1) (.int .i64 P)).heap.size (set3 w1 (w.heap.size + 1 + 1) (.string S1) (.slice p1 n1 c1) (.int .i64 P)) ((set3 w1 (w.heap.size + 1 + 1) (.string S1) (.slice p1 n1 c1) (.int .i64 P)).alloc (.cells #[.string S1, .slice p1 n1 c1, .int .i64 P] 29)) := (Below.refl _ _).alloc (Nat.le_refl _) _
  have hz := (hal.block _ (blk_lt hz0)).trans hz0
  have HD := Lib.hid (seqB hd0 hal)
  have HRow := Lib.hid (rowA_on hr0 hal)
  clear hal hz0 hd0 hr0
  clear hb1 hr1 h3 hg x0 x1 x2 o0 o1 o2 o3
  go_wp2_with fail
  generalize hW : ((set3 w1 (w.heap.size + 1 + 1) (.string S1) (.slice p1 n1 c1) (.int .i64 P)).alloc (.cells #[.string S1, .slice p1 n1 c1, .int .i64 P] 29)) = W at *
  unfold set3 at hW
  rw [hW]
  clear hW
  have z0 : W.cell? ⟨w.heap.size + 1 + 1, 0, none⟩ = some (.string S1) := cell_of_row W _ 0 _ _ _ hz
  have z1 : W.cell? ⟨w.heap.size + 1 + 1, 1, none⟩ = some (.slice p1 n1 c1) := cell_of_row W _ 1 _ _ _ hz
  have z2 : W.cell? ⟨w.heap.size + 1 + 1, 2, none⟩ = some (.int .i64 P) := cell_of_row W _ 2 _ _ _ hz
  exact bodyPost_ret (v := .tuple #[.agg #[.string S1, .slice p1 n1 c1, .int .i64 P], .int .i64 P, .string ⟨#[]⟩]) (by simp [results, Try.results13, go_sem, z0, z1, z2]) rfl ⟨_, _, _, rfl, HRow.out, HD.out⟩
set_option maxRecDepth 100000 in
set_option maxHeartbeats 8000000 in
theorem do_take (S s : ByteArray) (p : Option Addr) (n c : Nat) (A : List Int) (last a N : Int) (w : World) (hr : RowA w p n c A) (hS : S.size = n) (hn : n ≤ 100000) {K : Nat} (hK : takeK A a N = K) :
    Calls Try.prog 13 #[.agg #[.string S, .slice p n c, .int .i64 last], .agg #[.int .i64 1, .int .i64 a, .int .i64 N, .string s]] w (Did (S.extract K n) (A.drop K) last 0 (S.extract 0 K) w) := by
  have HR := Lib.hid hr
  have HC := Lib.hid (fun w' h => rtake_any S p n c A last a N w' h hS hn hK)
  clear hr hS hn hK
  obtain ⟨S1, HS1⟩ : ∃ P, Hid (S.extract K n = P) := ⟨_, Lib.hid rfl⟩
  obtain ⟨T1, HT1⟩ : ∃ P, Hid (S.extract 0 K = P) := ⟨_, Lib.hid rfl⟩
  rw [HS1.out, HT1.out] at HC ⊢
  have HB0 := Lib.hid (below3 w (.cells #[.string S, .slice p n c, .int .i64 last] 29) (.cells #[.int .i64 1, .int .i64 a, .int .i64 N, .string s] 31) (.cells #[.string ⟨#[]⟩, .slice none 0 0, .int .i64 0] 29))
  have h3 := three_blocks (Below.refl _ (((w.alloc (.cells #[.string S, .slice p n c, .int .i64 last] 29)).alloc (.cells #[.int .i64 1, .int .i64 a, .int .i64 N, .string s] 31)).alloc (.cells #[.string ⟨#[]⟩, .slice none 0 0, .int .i64 0] 29)))
  have x0 : (((w.alloc (.cells #[.string S, .slice p n c, .int .i64 last] 29)).alloc (.cells #[.int .i64 1, .int .i64 a, .int .i64 N, .string s] 31)).alloc (.cells #[.string ⟨#[]⟩, .slice none 0 0, .int .i64 0] 29)).cell? ⟨w.heap.size, 0, none⟩ = some (.string S) := cell_of_row _ _ 0 _ _ _ h3.1
  have x1 : (((w.alloc (.cells #[.string S, .slice p n c, .int .i64 last] 29)).alloc (.cells #[.int .i64 1, .int .i64 a, .int .i64 N, .string s] 31)).alloc (.cells #[.string ⟨#[]⟩, .slice none 0 0, .int .i64 0] 29)).cell? ⟨w.heap.size, 1, none⟩ = some (.slice p n c) := cell_of_row _ _ 1 _ _ _ h3.1
  have x2 : (((w.alloc (.cells #[.string S, .slice p n c, .int .i64 last] 29)).alloc (.cells #[.int .i64 1, .int .i64 a, .int .i64 N, .string s] 31)).alloc (.cells #[.string ⟨#[]⟩, .slice none 0 0, .int .i64 0] 29)).cell? ⟨w.heap.size, 2, none⟩ = some (.int .i64 last) := cell_of_row _ _ 2 _ _ _ h3.1
  have o0 : (((w.alloc (.cells #[.string S, .slice p n c, .int .i64 last] 29)).alloc (.cells #[.int .i64 1, .int .i64 a, .int .i64 N, .string s] 31)).alloc (.cells #[.string ⟨#[]⟩, .slice none 0 0, .int .i64 0] 29)).cell? ⟨w.heap.size + 1, 0, none⟩ = some (.int .i64 1) := cell_of_row _ _ 0 _ _ _ h3.2.1
  have o1 : (((w.alloc (.cells #[.string S, .slice p n c, .int .i64 last] 29)).alloc (.cells #[.int .i64 1, .int .i64 a, .int .i64 N, .string s] 31)).alloc (.cells #[.string ⟨#[]⟩, .slice none 0 0, .int .i64 0] 29)).cell? ⟨w.heap.size + 1, 1, none⟩ = some (.int .i64 a) := cell_of_row _ _ 1 _ _ _ h3.2.1
  have o2 : (((w.alloc (.cells #[.string S, .slice p n c, .int .i64 last] 29)).alloc (.cells #[.int .i64 1, .int .i64 a, .int .i64 N, .string s] 31)).alloc (.cells #[.string ⟨#[]⟩, .slice none 0 0, .int .i64 0] 29)).cell? ⟨w.heap.size + 1, 2, none⟩ = some (.int .i64 N) := cell_of_row _ _ 2 _ _ _ h3.2.1
  have o3 : (((w.alloc (.cells #[.string S, .slice p n c, .int .i64 last] 29)).alloc (.cells #[.int .i64 1, .int .i64 a, .int .i64 N, .string s] 31)).alloc (.cells #[.string ⟨#[]⟩, .slice none 0 0, .int .i64 0] 29)).cell? ⟨w.heap.size + 1, 3, none⟩ = some (.string s) := cell_of_row _ _ 3 _ _ _ h3.2.1
  clear h3
  go_enter Try.func13, Try.ntmps13
  go_wp2_with fail
  refine (HC.out _ (rowA_on HR.out HB0.out)).mono ?_
  rintro e w1 ⟨p1, n1, c1, rfl, hr1, hb1⟩
  clear HC
  have h3 := three_blocks hb1
  have HB1 := Lib.hid (seqB HB0.out hb1)
  have HR1 := Lib.hid hr1
  have hg := h3.2.2.1
  have y0 : w1.cell? ⟨w.heap.size + 1 + 1, 0, none⟩ = some (.string ⟨#[]⟩) := cell_of_row _ _ 0 _ _ _ hg
  have y1 : w1.cell? ⟨w.heap.size + 1 + 1, 1, none⟩ = some (.slice none 0 0) := cell_of_row _ _ 1 _ _ _ hg
  have y2 : w1.cell? ⟨w.heap.size + 1 + 1, 2, none⟩ = some (.int .i64 0) := cell_of_row _ _ 2 _ _ _ hg
  have f0 : w1.frozen? ⟨w.heap.size + 1 + 1, 0, none⟩ = false := frozen_at hg
  have f1 : w1.frozen? ⟨w.heap.size + 1 + 1, 1, none⟩ = false := frozen_at hg
  have f2 : w1.frozen? ⟨w.heap.size + 1 + 1, 2, none⟩ = false := frozen_at hg
  have hgl := h3.2.2.2
  have hz0 := set3_heap hg (.string S1) (.slice p1 n1 c1) (.int .i64 last)
  have hd0 := set3_below (B := w.heap.size) (w0 := w) (w := w1) (g := w.heap.size + 1 + 1) HB1.out (by omega) (.string S1) (.slice p1 n1 c1) (.int .i64 last)
  have hr0 := rowA_set3 HR1.out hg (.string S1) (.slice p1 n1 c1) (.int .i64 last)
  have hal : Below (set3 w1 (w.heap.size + 1 + 1) (.string S1) (.slice p1 n1 c1) (.int .i64 last)).heap.size (set3 w1 (w.heap.size + 1 + 1) (.string S1) (.slice p1 n1 c1) (.int .i64 last)) ((set3 w1 (w.heap.size + 1 + 1) (.string S1) (.slice p1 n1 c1) (.int .i64 last)).alloc (.cells #[.string S1, .slice p1 n1 c1, .int .i64 last] 29)) := (Below.refl _ _).alloc (Nat.le_refl _) _
  have hz := (hal.block _ (blk_lt hz0)).trans hz0
  have HD := Lib.hid (seqB hd0 hal)
  have HRow := Lib.hid (rowA_on hr0 hal)
  clear hal hz0 hd0 hr0
  clear hb1 hr1 h3 hg x0 x1 x2 o0 o1 o2 o3
  go_wp2_with fail
  generalize hW : ((set3 w1 (w.heap.size + 1 + 1) (.string S1) (.slice p1 n1 c1) (.int .i64 last)).alloc (.cells #[.string S1, .slice p1 n1 c1, .int .i64 last] 29)) = W at *
  unfold set3 at hW
  rw [hW]
  clear hW
  have z0 : W.cell? ⟨w.heap.size + 1 + 1, 0, none⟩ = some (.string S1) := cell_of_row W _ 0 _ _ _ hz
  have z1 : W.cell? ⟨w.heap.size + 1 + 1, 1, none⟩ = some (.slice p1 n1 c1) := cell_of_row W _ 1 _ _ _ hz
  have z2 : W.cell? ⟨w.heap.size + 1 + 1, 2, none⟩ = some (.int .i64 last) := cell_of_row W _ 2 _ _ _ hz
  exact bodyPost_ret (v := .tuple #[.agg #[.string S1, .slice p1 n1 c1, .int .i64 last], .int .i64 0, .string T1]) (by simp [results, Try.results13, go_sem, z0, z1, z2]) rfl ⟨_, _, _, rfl, HRow.out, HD.out⟩
set_option maxRecDepth 100000 in
set_option maxHeartbeats 8000000 in
theorem do_hurry (S s : ByteArray) (p : Option Addr) (n c : Nat) (A : List Int) (last a N : Int) (w : World) (hr : RowA w p n c A) (hn : n ≤ 100000) :
    Calls Try.prog 13 #[.agg #[.string S, .slice p n c, .int .i64 last], .agg #[.int .i64 2, .int .i64 a, .int .i64 N, .string s]] w (Did S (lows (near a) A) (low (near a) last) 0 ⟨#[]⟩ w) := by
  have HR := Lib.hid hr
  have HC := Lib.hid (fun w' h => rhurry_any S p n c A last a w' h hn rfl)
  clear hr hn
  obtain ⟨A1, HA1⟩ : ∃ P, Hid (lows (near a) A = P) := ⟨_, Lib.hid rfl⟩
  obtain ⟨L1, HL1⟩ : ∃ P, Hid (low (near a) last = P) := ⟨_, Lib.hid rfl⟩
  rw [HA1.out, HL1.out] at HC ⊢
  have HB0 := Lib.hid (below3 w (.cells #[.string S, .slice p n c, .int .i64 last] 29) (.cells #[.int .i64 2, .int .i64 a, .int .i64 N, .string s] 31) (.cells #[.string ⟨#[]⟩, .slice none 0 0, .int .i64 0] 29))
  have h3 := three_blocks (Below.refl _ (((w.alloc (.cells #[.string S, .slice p n c, .int .i64 last] 29)).alloc (.cells #[.int .i64 2, .int .i64 a, .int .i64 N, .string s] 31)).alloc (.cells #[.string ⟨#[]⟩, .slice none 0 0, .int .i64 0] 29)))
  have x0 : (((w.alloc (.cells #[.string S, .slice p n c, .int .i64 last] 29)).alloc (.cells #[.int .i64 2, .int .i64 a, .int .i64 N, .string s] 31)).alloc (.cells #[.string ⟨#[]⟩, .slice none 0 0, .int .i64 0] 29)).cell? ⟨w.heap.size, 0, none⟩ = some (.string S) := cell_of_row _ _ 0 _ _ _ h3.1
  have x1 : (((w.alloc (.cells #[.string S, .slice p n c, .int .i64 last] 29)).alloc (.cells #[.int .i64 2, .int .i64 a, .int .i64 N, .string s] 31)).alloc (.cells #[.string ⟨#[]⟩, .slice none 0 0, .int .i64 0] 29)).cell? ⟨w.heap.size, 1, none⟩ = some (.slice p n c) := cell_of_row _ _ 1 _ _ _ h3.1
  have x2 : (((w.alloc (.cells #[.string S, .slice p n c, .int .i64 last] 29)).alloc (.cells #[.int .i64 2, .int .i64 a, .int .i64 N, .string s] 31)).alloc (.cells #[.string ⟨#[]⟩, .slice none 0 0, .int .i64 0] 29)).cell? ⟨w.heap.size, 2, none⟩ = some (.int .i64 last) := cell_of_row _ _ 2 _ _ _ h3.1
  have o0 : (((w.alloc (.cells #[.string S, .slice p n c, .int .i64 last] 29)).alloc (.cells #[.int .i64 2, .int .i64 a, .int .i64 N, .string s] 31)).alloc (.cells #[.string ⟨#[]⟩, .slice none 0 0, .int .i64 0] 29)).cell? ⟨w.heap.size + 1, 0, none⟩ = some (.int .i64 2) := cell_of_row _ _ 0 _ _ _ h3.2.1
  have o1 : (((w.alloc (.cells #[.string S, .slice p n c, .int .i64 last] 29)).alloc (.cells #[.int .i64 2, .int .i64 a, .int .i64 N, .string s] 31)).alloc (.cells #[.string ⟨#[]⟩, .slice none 0 0, .int .i64 0] 29)).cell? ⟨w.heap.size + 1, 1, none⟩ = some (.int .i64 a) := cell_of_row _ _ 1 _ _ _ h3.2.1
  have o2 : (((w.alloc (.cells #[.string S, .slice p n c, .int .i64 last] 29)).alloc (.cells #[.int .i64 2, .int .i64 a, .int .i64 N, .string s] 31)).alloc (.cells #[.string ⟨#[]⟩, .slice none 0 0, .int .i64 0] 29)).cell? ⟨w.heap.size + 1, 2, none⟩ = some (.int .i64 N) := cell_of_row _ _ 2 _ _ _ h3.2.1
  have o3 : (((w.alloc (.cells #[.string S, .slice p n c, .int .i64 last] 29)).alloc (.cells #[.int .i64 2, .int .i64 a, .int .i64 N, .string s] 31)).alloc (.cells #[.string ⟨#[]⟩, .slice none 0 0, .int .i64 0] 29)).cell? ⟨w.heap.size + 1, 3, none⟩ = some (.string s) := cell_of_row _ _ 3 _ _ _ h3.2.1
  clear h3
  go_enter Try.func13, Try.ntmps13
  go_wp2_with fail
  refine (HC.out _ (rowA_on HR.out HB0.out)).mono ?_
  rintro e w1 ⟨p1, n1, c1, rfl, hr1, hb1⟩
  clear HC
  have h3 := three_blocks hb1
  have HB1 := Lib.hid (seqB HB0.out hb1)
  have HR1 := Lib.hid hr1
  have hg := h3.2.2.1
  have y0 : w1.cell? ⟨w.heap.size + 1 + 1, 0, none⟩ = some (.string ⟨#[]⟩) := cell_of_row _ _ 0 _ _ _ hg
  have y1 : w1.cell? ⟨w.heap.size + 1 + 1, 1, none⟩ = some (.slice none 0 0) := cell_of_row _ _ 1 _ _ _ hg
  have y2 : w1.cell? ⟨w.heap.size + 1 + 1, 2, none⟩ = some (.int .i64 0) := cell_of_row _ _ 2 _ _ _ hg
  have f0 : w1.frozen? ⟨w.heap.size + 1 + 1, 0, none⟩ = false := frozen_at hg
  have f1 : w1.frozen? ⟨w.heap.size + 1 + 1, 1, none⟩ = false := frozen_at hg
  have f2 : w1.frozen? ⟨w.heap.size + 1 + 1, 2, none⟩ = false := frozen_at hg
  have hgl := h3.2.2.2
  have hz0 := set3_heap hg (.string S) (.slice p1 n1 c1) (.int .i64 L1)
  have hd0 := set3_below (B := w.heap.size) (w0 := w) (w := w1) (g := w.heap.size + 1 + 1) HB1.out (by omega) (.string S) (.slice p1 n1 c1) (.int .i64 L1)
  have hr0 := rowA_set3 HR1.out hg (.string S) (.slice p1 n1 c1) (.int .i64 L1)
  have hz := hz0
  have HD := Lib.hid hd0
  have HRow := Lib.hid hr0
  clear hz0 hd0 hr0
  clear hb1 hr1 h3 hg x0 x1 x2 o0 o1 o2 o3
  go_wp2_with fail
  generalize hW : (set3 w1 (w.heap.size + 1 + 1) (.string S) (.slice p1 n1 c1) (.int .i64 L1)) = W at *
  unfold set3 at hW
  rw [hW]
  clear hW
  have z0 : W.cell? ⟨w.heap.size + 1 + 1, 0, none⟩ = some (.string S) := cell_of_row W _ 0 _ _ _ hz
  have z1 : W.cell? ⟨w.heap.size + 1 + 1, 1, none⟩ = some (.slice p1 n1 c1) := cell_of_row W _ 1 _ _ _ hz
  have z2 : W.cell? ⟨w.heap.size + 1 + 1, 2, none⟩ = some (.int .i64 L1) := cell_of_row W _ 2 _ _ _ hz
  exact bodyPost_ret (v := .tuple #[.agg #[.string S, .slice p1 n1 c1, .int .i64 L1], .int .i64 0, .string ⟨#[]⟩]) (by simp [results, Try.results13, go_sem, z0, z1, z2]) rfl ⟨_, _, _, rfl, HRow.out, HD.out⟩
end Go.Proofs.Ytmblgpejgdlakaa

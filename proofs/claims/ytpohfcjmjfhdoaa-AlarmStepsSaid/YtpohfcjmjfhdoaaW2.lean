/-
  Contract: what put does: it writes an alarm into the heap's row, and where it stands. Conditions: as each states.
-/
import Derived.Test.YtpohfcjmjfhdoaaW1
namespace Go.Proofs.Ytpohfcjmjfhdoaa
open Go.RowKit Go.Sort Go.Maps

theorem flat_set (h : List Due) (k : Nat) (d : Due) : flat (h.set k d) = ((flat h).set (k * 2) (.int .i64 d.1)).set (k * 2 + 1) (.int .i64 d.2) := by
  induction h generalizing k with
  | nil => simp [flat]
  | cons e r ih =>
    have e1 : ∀ (x : Due) (y : List Due), flat (x :: y) = .int .i64 x.1 :: .int .i64 x.2 :: flat y := fun _ _ => rfl
    cases k with
    | zero => simp [e1]
    | succ k =>
      rw [List.set_cons_succ, e1, e1, ih, show (k + 1) * 2 = k * 2 + 1 + 1 by omega]
      simp
/-- The two cells of the alarm at k. -/
theorem row_cells {w : World} {base b c : Nat} {h : List Due} (ho : w.ownsRow base 38 2 (.slice (some ⟨b, 0, none⟩) h.length c) h.length (flat h)) {k : Nat} (hk : k < h.length) :
    w.cell? ⟨b, k * 2, none⟩ = some (.int .i64 (h.getD k (0, 0)).1) ∧ w.cell? ⟨b, k * 2 + 1, none⟩ = some (.int .i64 (h.getD k (0, 0)).2) := by
  rw [ho.cellAt (k * 2) (by omega), ho.cellAt (k * 2 + 1) (by omega)]
  exact flat_at h k hk
theorem row_form {w : World} {base : Nat} {v : Value} {h : List Due} (ho : w.ownsRow base 38 2 v h.length (flat h)) (hn : 0 < h.length) : ∃ b c, v = .slice (some ⟨b, 0, none⟩) h.length c ∧ h.length ≤ c ∧ c ≤ 9223372036854775807 := by
  rcases ho.2 with ⟨_, h0⟩ | ⟨b, cap, cur, rfl, _, _, h1, h2, _⟩
  · omega
  · unfold maxLen at h2
    exact ⟨b, cap, rfl, h1, by omega⟩
def wfId (d : Due) : Prop := -9223372036854775808 ≤ d.2 ∧ d.2 ≤ 9223372036854775807
/-- What it comes to in memory: the row's cells are written, then the map. -/
theorem place_mem {w : World} {base g : Nat} {u : Option Nat} {m : Nat} {s : St} {last : Int} (h : Mem w base g u m s last) {k : Nat} {d : Due} (hk : k < s.h.length) (hl : s.h.length ≤ 1000000) (hs : s.sz ≤ 1000000) (hd : wfId d) :
    ∃ b c, w.heap[g]? = some (.cells #[.slice (some ⟨b, 0, none⟩) s.h.length c, .map (some m), .int .i64 last] 62 (0, 0)) ∧ s.h.length ≤ c ∧ c ≤ 9223372036854775807 ∧ b ≠ g ∧ b < w.heap.size ∧
      (∀ w1, Below w.heap.size w w1 → w1.cell? ⟨g, 0, none⟩ = some (.slice (some ⟨b, 0, none⟩) s.h.length c) ∧ w1.frozen? ⟨b, k * 2, none⟩ = false ∧ w1.frozen? ⟨b, k * 2 + 1, none⟩ = false ∧ w1.cell? ⟨b, k * 2, none⟩ = some (.int .i64 (s.at k).1) ∧ w1.cell? ⟨b, k * 2 + 1, none⟩ = some (.int .i64 (s.at k).2)) ∧
      ∀ w1, Below w.heap.size w w1 → ∀ w2, w2 = (w1.setCell ⟨b, k * 2, none⟩ (.int .i64 d.1)).setCell ⟨b, k * 2 + 1, none⟩ (.int .i64 d.2) → w2.cell? ⟨g, 1, none⟩ = some (.map (some m)) ∧ (∀ i, b ≠ i → w2.heap[i]? = w1.heap[i]?) ∧
        ∃ w3, (Instr.mapUpdate 60 (.map (some m)) (.int .i64 d.2) (.int .i64 (k : Int))).run Try.prog w2.drew = .ok () w3 ∧ Mem w3 base g u m (s.put k d) last ∧ Kept w w3 g u m ∧ w3.heap[g]? = w.heap[g]? := by
  obtain ⟨v, h1, h2, h3⟩ := id h.ex
  obtain ⟨b, c, rfl, hc1, hc2⟩ := row_form h2 (by omega)
  have hbu : u = some b := by rw [← h3]; rfl
  have hbg : b ≠ g := fun e => own_other h2 h1 (by rw [e]; rfl)
  obtain ⟨es, cl, hm⟩ := map_block h.map
  have hbm : b ≠ m := fun e => own_no_map h2 hm (by rw [e]; rfl)
  have hgm : g ≠ m := fun e => by rw [e, hm] at h1; cases h1
  have hbl := (h2.lt b rfl).2
  refine ⟨b, c, h1, hc1, hc2, hbg, hbl, fun w1 hb1 => ?_, fun w1 hb1 w2 hw2 => ?_⟩
  · have ho := own_on h2 hb1
    have hh : w1.heap[g]? = some (.cells #[.slice (some ⟨b, 0, none⟩) s.h.length c, .map (some m), .int .i64 last] 62 (0, 0)) := (hb1.block g (blk_lt h1)).trans h1
    obtain ⟨r1, r2⟩ := row_cells ho hk
    exact ⟨cell_of_row _ g 0 _ _ _ hh, ho.frozenAt _, ho.frozenAt _, r1, r2⟩
  · have ho := own_on h2 hb1
    have hg1 : w1.heap[g]? = some (.cells #[.slice (some ⟨b, 0, none⟩) s.h.length c, .map (some m), .int .i64 last] 62 (0, 0)) := (hb1.block g (blk_lt h1)).trans h1
    have hp1 := ho.stored (k * 2) (.int .i64 d.1)
    have hp2 := hp1.1.stored (k * 2 + 1) (.int .i64 d.2)
    rw [← flat_set, ← hw2] at hp2
    have hgr : w1.grownBy w2 (some b) := hp1.2.trans hp2.2
    have hs1 := hb1.size
    have hfar : ∀ i, b ≠ i → w2.heap[i]? = w1.heap[i]? := fun i hi => by
      rw [hw2, Below.heap_setCell _ _ _ _ hi.symm, Below.heap_setCell _ _ _ _ hi.symm]
    have hg2 : w2.heap[g]? = some (.cells #[.slice (some ⟨b, 0, none⟩) s.h.length c, .map (some m), .int .i64 last] 62 (0, 0)) := (hfar g hbg).trans hg1
    have hmap2 : MapIn w2.drew m s.pl s.sz := by
      have a1 : MapIn w1 m s.pl s.sz := map_kept h.map (row := none) ⟨hb1.os, hb1.tape, hb1.output, hb1.size, fun i hi _ => hb1.block i hi⟩ (by simp)
      have a2 : MapIn w2 m s.pl s.sz := map_kept a1 hgr (by intro e; injection e with e; exact hbm e.symm)
      exact a2
    obtain ⟨w3, hrun, hm3, hg3⟩ := map_store hmap2 hs hd (k := k) (by omega)
    refine ⟨cell_of_row _ g 1 _ _ _ hg2, hfar, w3, hrun, ⟨⟨_, ?_, ?_, h3⟩, hm3, h.base_g, h.base_m⟩, ?_, ?_⟩
    · exact (hg3.block g (by show g < w2.heap.size; exact blk_lt hg2) (by intro e; injection e with e; exact hgm e)).trans hg2
    · have ho2 : w2.ownsRow base 38 2 (.slice (some ⟨b, 0, none⟩) s.h.length c) s.h.length (flat (s.h.set k d)) := hp2.1
      have ho3 := World.ownsRow.kept (w := w2) ho2 (w' := w3) (row := some m) ⟨hg3.os, hg3.tape, hg3.output, hg3.size, hg3.block⟩ (Or.inr (by intro e; injection e with e; exact hbm e))
      have hln : (s.put k d).h.length = s.h.length := put_len s k d
      rw [hln]
      exact ho3
    · refine kept_map (w := w2.drew) ?_ hg3
      have a1 : Kept w w2 g u m := kept_row (kept_below hb1 g u m) (by rw [hbu]; exact hgr)
      exact ⟨a1.os, a1.tape, a1.output, a1.size, a1.block⟩
    · rw [h1]
      exact (hg3.block g (by show g < w2.heap.size; exact blk_lt hg2) (by intro e; injection e with e; exact hgm e)).trans hg2
set_option maxHeartbeats 4000000 in
theorem place_any {w : World} {base g : Nat} {u : Option Nat} {m : Nat} {s : St} {last : Int} (h : Mem w base g u m s last) {k : Nat} {d : Due} (hk : k < s.h.length) (hl : s.h.length ≤ 1000000) (hs : s.sz ≤ 1000000) (hd : wfId d) :
    Calls Try.prog 44 #[.pointer (some ⟨g, 0, none⟩), .int .i64 k, .agg #[.int .i64 d.1, .int .i64 d.2]] w fun e w' => e = .returned (.tuple #[]) ∧ Mem w' base g u m (s.put k d) last ∧ Kept w w' g u m ∧ w'.heap[g]? = w.heap[g]? := by
  obtain ⟨b, c, hgb, hc1, hc2, hbg, hbl, hA, hB⟩ := place_mem h hk hl hs hd
  have hgl := h.lt
  obtain ⟨d0, d1⟩ := d
  show Calls _ _ #[.pointer (some ⟨g, 0, none⟩), .int .i64 k, .agg #[.int .i64 d0, .int .i64 d1]] w _
  have k0 := heap_alloc_new w (.cells #[.int .i64 d0, .int .i64 d1] 38)
  have hb1 : Below w.heap.size w (w.alloc (.cells #[.int .i64 d0, .int .i64 d1] 38)) := (Below.refl _ _).alloc (Nat.le_refl _) _
  have hgen : ∀ W, Below w.heap.size w W → W.heap[w.heap.size]? = some (.cells #[.int .i64 d0, .int .i64 d1] 38 (0, 0)) → (∃ w3 : World, (W.cell? ⟨w.heap.size, 0, none⟩ = some (.int .i64 d0) ∧ W.cell? ⟨w.heap.size, 1, none⟩ = some (.int .i64 d1) ∧ W.cell? ⟨g, 0, none⟩ = some (.slice (some ⟨b, 0, none⟩) s.h.length c) ∧ W.frozen? ⟨b, k * 2, none⟩ = false ∧ W.frozen? ⟨b, k * 2 + 1, none⟩ = false ∧ W.cell? ⟨b, k * 2, none⟩ = some (.int .i64 (s.at k).1) ∧ W.cell? ⟨b, k * 2 + 1, none⟩ = some (.int .i64 (s.at k).2)) ∧
      (((W.setCell ⟨b, k * 2, none⟩ (.int .i64 d0)).setCell ⟨b, k * 2 + 1, none⟩ (.int .i64 d1)).cell? ⟨w.heap.size, 1, none⟩ = some (.int .i64 d1) ∧ ((W.setCell ⟨b, k * 2, none⟩ (.int .i64 d0)).setCell ⟨b, k * 2 + 1, none⟩ (.int .i64 d1)).cell? ⟨g, 1, none⟩ = some (.map (some m))) ∧
      (Instr.mapUpdate 60 (.map (some m)) (.int .i64 d1) (.int .i64 (k : Int))).run Try.prog ((W.setCell ⟨b, k * 2, none⟩ (.int .i64 d0)).setCell ⟨b, k * 2 + 1, none⟩ (.int .i64 d1)).drew.drew = .ok () w3 ∧ Mem w3 base g u m (s.put k (d0, d1)) last ∧ Kept w w3 g u m ∧ w3.heap[g]? = w.heap[g]?) := fun W hW hn => by
    obtain ⟨a1, a2, a3, a4, a5⟩ := hA _ hW
    obtain ⟨b1, b2, w3, hrun, hM, hK⟩ := hB _ hW.drew _ rfl
    have x0 := (b2 w.heap.size (by omega)).trans (show W.drew.heap[w.heap.size]? = _ from hn)
    exact ⟨w3, ⟨cell_of_row _ _ 0 _ _ _ hn, cell_of_row _ _ 1 _ _ _ hn, a1, a2, a3, a4, a5⟩, ⟨cell_of_row _ _ 1 _ _ _ x0, b1⟩, hrun, hM, hK⟩
  have HG := Lib.hid hgen
  clear hA hB hgen hgb h hs hd
  obtain ⟨L, hL⟩ : ∃ L, s.h.length = L := ⟨_, rfl⟩
  rw [hL] at hk hl hc1
  go_enter Try.func44, Try.ntmps44
  go_wp2_with fail
  have H1 := HG.out _ hb1 k0
  clear HG hb1 k0
  generalize w.alloc (.cells #[.int .i64 d0, .int .i64 d1] 38) = W at *
  generalize w.heap.size = n at H1 ⊢
  obtain ⟨w3, ⟨y0, y1, a1, a2, a3, a4, a5⟩, ⟨z1, b1⟩, hrun, hM, hK⟩ := H1
  rw [hL] at a1
  have HP := Lib.hid (And.intro hM hK)
  clear hM hK hL
  generalize s.at k = old at a4 a5
  go_region
  go_wp2_with fail
  go_region
  go_wp2_with fail
  go_end0
  exact ⟨rfl, HP.out⟩
end Go.Proofs.Ytpohfcjmjfhdoaa

/-
  Contract: Find. Conditions: the slice's length.
-/
import Derived.Test.YtmghkcjljnlocaaGreatDoorPI
namespace Go.Proofs.YtmghkcjljnlocaaGreatDoor
open Go.RowKit
section
variable (p : Option Addr) (n d : Nat) (l : List Prx) (s : ByteArray) (w : World)
theorem zero_box (w : World) : Below w.heap.size w (w.alloc (.cells #[.string ⟨#[]⟩, .bool false, .int .i64 0, .slice none 0 0] TP)) := (Below.refl _ _).alloc (Nat.le_refl _) _
set_option maxRecDepth 100000 in
set_option maxHeartbeats 4000000 in
theorem find_no (hl : l.length = n) (hn : n ≤ 1000000) (hi : PrxIn w p n l) (hk : ¬ Nm.fP l s < n) :
    Calls Tryz.prog 26 #[.slice p n d, .string s] w fun e w' => e = .returned (.tuple #[.agg #[.string ⟨#[]⟩, .bool false, .int .i64 0, .slice none 0 0], .bool false]) ∧ Below w.heap.size w w' := by
  obtain ⟨w1, hw1⟩ : ∃ w1, w.alloc (.cells #[.string ⟨#[]⟩, .bool false, .int .i64 0, .slice none 0 0] TP) = w1 := ⟨_, rfl⟩
  have hb1 : Below w.heap.size w w1 := hw1 ▸ zero_box w
  have h1 : w1.heap[w.heap.size]? = some (.cells #[.string ⟨#[]⟩, .bool false, .int .i64 0, .slice none 0 0] TP (0, 0)) := by rw [← hw1]; exact heap_alloc_new _ _
  have hX := whereP_any p n d l s w1 hl hn (prxs_on hi hb1)
  have e1 : orNone (Nm.fP l s) n = -1 := if_neg hk
  rw [e1] at hX
  have HX := Lib.hid hX
  have HW := Lib.hid hw1
  have HB := Lib.hid hb1
  have H1 := Lib.hid h1
  clear e1 hX hi hl hk hb1 h1 hw1
  go_enter Tryz.func26, Tryz.ntmps26
  go_wp2_with fail
  rw [HW.out]
  refine HX.out.mono ?_
  rintro e w2 ⟨rfl, hb⟩
  have k1 := (hb.block _ (gc.blk_lt H1.out)).trans H1.out
  have HB2 := Lib.hid (seqB HB.out hb)
  have f2 : w2.frozen? ⟨w.heap.size, 0, none⟩ = false := gc.frozen_at k1
  have f3 : w2.frozen? ⟨w.heap.size, 1, none⟩ = false := gc.frozen_at k1
  have f4 : w2.frozen? ⟨w.heap.size, 2, none⟩ = false := gc.frozen_at k1
  have f5 : w2.frozen? ⟨w.heap.size, 3, none⟩ = false := gc.frozen_at k1
  have g0 := cell_of_row _ _ 0 _ _ _ k1
  have g1 := cell_of_row _ _ 1 _ _ _ k1
  have g2 := cell_of_row _ _ 2 _ _ _ k1
  have g3 := cell_of_row _ _ 3 _ _ _ k1
  clear hb k1 HX
  go_wp2_with fail
  refine bodyPost_ret (v := .tuple #[.agg #[.string ⟨#[]⟩, .bool false, .int .i64 0, .slice none 0 0], .bool false]) (by simp [results, Tryz.results26, go_sem, *]) rfl ?_
  exact ⟨rfl, (((HB2.out.setCell (Nat.le_refl _) _).setCell (Nat.le_refl _) _).setCell (Nat.le_refl _) _).setCell (Nat.le_refl _) _⟩
set_option maxRecDepth 100000 in
set_option maxHeartbeats 4000000 in
theorem find_yes (hl : l.length = n) (hn : n ≤ 1000000) (hz : Lean14 l) (hi : PrxIn w p n l) (hk : Nm.fP l s < n) :
    Calls Tryz.prog 26 #[.slice p n d, .string s] w (OutF l (Nm.fP l s) w) := by
  obtain ⟨w1, hw1⟩ : ∃ w1, w.alloc (.cells #[.string ⟨#[]⟩, .bool false, .int .i64 0, .slice none 0 0] TP) = w1 := ⟨_, rfl⟩
  have hb1 : Below w.heap.size w w1 := hw1 ▸ zero_box w
  have hs1 : w1.heap.size = w.heap.size + 1 := by rw [← hw1]; exact World.size_alloc _ _
  have h1 : w1.heap[w.heap.size]? = some (.cells #[.string ⟨#[]⟩, .bool false, .int .i64 0, .slice none 0 0] TP (0, 0)) := by rw [← hw1]; exact heap_alloc_new _ _
  have hX := whereP_any p n d l s w1 hl hn (prxs_on hi hb1)
  have e1 : orNone (Nm.fP l s) n = (Nm.fP l s : Int) := if_pos hk
  rw [e1] at hX
  unfold OutF
  generalize Nm.fP l s = K at *
  obtain ⟨b, o, rfl, hcell⟩ := hi (by omega)
  obtain ⟨c0, c1, c2, qt, mt, dt, c3, hmd, hlt2, htx⟩ := hcell K hk
  rw [← Nat.add_assoc] at c1 c2 c3
  have hzk := (hz (l.getD K noPrx) (by rw [getD_at _ _ (by rw [hl]; exact hk)]; exact List.getElem_mem _)).2.1
  generalize l.getD K noPrx = x at *
  obtain ⟨xs, xon, xm, xt⟩ := x
  simp only at c0 c1 c2 hlt2 htx hzk ⊢
  rw [hlt2]
  have HX := Lib.hid hX
  have HW := Lib.hid hw1
  have HB := Lib.hid hb1
  have H1 := Lib.hid h1
  have HS := Lib.hid hs1
  have HC := Lib.hid (show ∀ W, Below w.heap.size w W → W.cell? ⟨b, o + K * 4, none⟩ = some (.string xs) ∧ W.cell? ⟨b, o + K * 4 + 1, none⟩ = some (.bool xon) ∧ W.cell? ⟨b, o + K * 4 + 2, none⟩ = some (.int .i64 xm) ∧ W.cell? ⟨b, o + K * 4 + 3, none⟩ = some (.slice qt mt dt) ∧ ToxIn W qt mt xt from fun W hW =>
    have key : ∀ {p : Addr} {v : Value}, w.cell? p = some v → W.cell? p = some v := fun hk => (hW.cell (World.block_lt_of_cell? w _ hk)).trans hk
    ⟨key c0, key c1, key c2, key c3, toxs_on htx hW⟩)
  have d1 : decide ((K : Int) < 0) = false := decide_eq_false (by omega)
  have d2 : ¬ ((K : Int) < 0) := by omega
  have d3 : (K : Int) < (n : Int) := by omega
  clear e1 hX hi hl hb1 h1 hw1 hs1 hcell c0 c1 c2 c3 htx hz
  go_enter Tryz.func26, Tryz.ntmps26
  go_wp2_with fail
  rw [HW.out]
  refine HX.out.mono ?_
  rintro e w2 ⟨rfl, hb⟩
  have H2 := Lib.hid ((hb.block _ (gc.blk_lt H1.out)).trans H1.out)
  have HB2 := Lib.hid (seqB HB.out hb)
  have HS2 := Lib.hid (show w.heap.size + 1 ≤ w2.heap.size from by rw [← HS.out]; exact hb.size)
  obtain ⟨c0, c1, c2, c3, htx⟩ := HC.out _ HB2.out
  have HP := Lib.hid (ownp_any xs xon xm qt mt dt xt w2 hlt2 (by omega) htx)
  clear hb HX htx hlt2 hzk
  go_wp2_with fail
  refine HP.out.mono ?_
  rintro e w3 ⟨q3, d3', rfl, ht, hb⟩
  have k1 := (hb.block _ (gc.blk_lt H2.out)).trans H2.out
  have HB3 := Lib.hid (seqB HB2.out hb)
  have HT := Lib.hid ht
  have f2 : w3.frozen? ⟨w.heap.size, 0, none⟩ = false := gc.frozen_at k1
  have f3 : w3.frozen? ⟨w.heap.size, 1, none⟩ = false := gc.frozen_at k1
  have f4 : w3.frozen? ⟨w.heap.size, 2, none⟩ = false := gc.frozen_at k1
  have f5 : w3.frozen? ⟨w.heap.size, 3, none⟩ = false := gc.frozen_at k1
  have g0 := cell_of_row _ _ 0 _ _ _ k1
  have g1 := cell_of_row _ _ 1 _ _ _ k1
  have g2 := cell_of_row _ _ 2 _ _ _ k1
  have g3 := cell_of_row _ _ 3 _ _ _ k1
  clear hb k1 HP ht c0 c1 c2 c3
  go_wp2_with fail
  refine bodyPost_ret (v := .tuple #[.agg #[.string xs, .bool xon, .int .i64 xm, .slice q3 mt d3'], .bool true]) (by simp [results, Tryz.results26, go_sem, *]) rfl ?_
  refine ⟨q3, d3', rfl, gc.ORow.keep (orow_low HT.out HB2.out.size) fun a ha => ?_, (((HB3.out.setCell (Nat.le_refl _) _).setCell (Nat.le_refl _) _).setCell (Nat.le_refl _) _).setCell (Nat.le_refl _) _⟩
  have h1 := (gc.ORow.lt HT.out a ha).1
  have h2 := HS2.out
  rw [Below.heap_setCell _ _ _ _ (by show a.block ≠ _; simp only; omega), Below.heap_setCell _ _ _ _ (by show a.block ≠ _; simp only; omega), Below.heap_setCell _ _ _ _ (by show a.block ≠ _; simp only; omega), Below.heap_setCell _ _ _ _ (by show a.block ≠ _; simp only; omega)]
end
end Go.Proofs.YtmghkcjljnlocaaGreatDoor

/-
  Contracts: how many bytes a stage gives, by its kind. Conditions: as each states.
  Contract: what Take of a stage answers. Conditions: as each states.
  Contracts: Take of a stage. Conditions: as each states.
-/
import Derived.Test.YtlbihcpglcdmmaaGreatZC
namespace Go.Proofs.YtlbihcpglcdmmaaGreat
open Go.RowKit

variable {w w' w'' w0 : World} {base g c M M' : Nat} {u u' u'' : gc.U} {s s' s'' : St}
set_option maxRecDepth 100000 in
set_option maxHeartbeats 4000000 in
theorem all_any (g : Nat) (n : Int) (w : World) : Calls Tryz.prog 70 #[ptr g, .int .i64 n] w fun e w' => e = .returned (.int .i64 n) ∧ w = w' := by
  go_enter Tryz.func70, Tryz.ntmps70
  go_wp2_with fail
  try rw [Exit.noGoto_ret]
  go_ret
  exact ⟨rfl, rfl⟩
set_option maxRecDepth 100000 in
set_option maxHeartbeats 4000000 in
theorem none_any (g : Nat) (n : Int) (w : World) : Calls Tryz.prog 73 #[ptr g, .int .i64 n] w fun e w' => e = .returned (.int .i64 0) ∧ w = w' := by
  go_enter Tryz.func73, Tryz.ntmps73
  go_wp2_with fail
  try rw [Exit.noGoto_ret]
  go_ret
  exact ⟨rfl, rfl⟩
set_option maxRecDepth 100000 in
set_option maxHeartbeats 4000000 in
theorem rest_any (h : Raw w base g c u s M) (ho : Ok s M) (n : Int) {K : Int} (hK : min n (s.tx.a - s.passed) = K) : Calls Tryz.prog 74 #[ptr g, .int .i64 n] w fun e w' => e = .returned (.int .i64 K) ∧ Below w.heap.size w w' := by
  have x5 : w.cell? ⟨g, 5, none⟩ = some (.int .i64 s.tx.a) := h.cell 5
  have x13 : w.cell? ⟨g, 13, none⟩ = some (.int .i64 s.passed) := h.cell 13
  have hab := ho.ab
  have hp := ho.passed
  have ht := ho.top
  have hw : IntKind.i64.wrap (s.tx.a - s.passed) = s.tx.a - s.passed := wrap_id (by omega) (by omega)
  have HB := Lib.hid ((Below.refl w.heap.size w).drew)
  clear hab hp ht h ho
  go_enter Tryz.func74, Tryz.ntmps74
  go_wp2_with fail
  refine wp_region_still_tail 12 (by kernel_rfl) (by kernel_rfl) ?_
  simp only [List.take_succ_cons, List.take_zero, List.drop_succ_cons, List.drop_zero]
  repeat still_step
  refine wpStill_nil ?_
  go_wp2_with fail
  try rw [Exit.noGoto_ret]
  go_ret
  exact ⟨rfl, HB.out⟩
set_option maxRecDepth 100000 in
set_option maxHeartbeats 4000000 in
theorem slice_wait (h : Raw w base g c u s M) (n : Int) (hp : s.clock < s.pause) : Calls Tryz.prog 72 #[ptr g, .int .i64 n] w fun e w' => e = .returned (.int .i64 0) ∧ Set w base g c u s M w' := by
  have x15 : w.cell? ⟨g, 15, none⟩ = some (.int .i64 s.clock) := h.cell 15
  have x19 : w.cell? ⟨g, 19, none⟩ = some (.int .i64 s.pause) := h.cell 19
  have HS := Lib.hid ((Set.refl h).on (Below.refl w.heap.size w).drew)
  have hd : decide (s.clock < s.pause) = true := by simpa using hp
  clear h
  generalize s.clock = ck at *
  generalize s.pause = ps at *
  go_enter Tryz.func72, Tryz.ntmps72
  go_wp2_with fail
  refine wp_region_still_tail 8 (by kernel_rfl) (by kernel_rfl) ?_
  simp only [List.take_succ_cons, List.take_zero, List.drop_succ_cons, List.drop_zero]
  repeat still_step
  refine wpStill_nil ?_
  go_wp2_with fail
  try rw [Exit.noGoto_ret]
  go_ret
  exact ⟨rfl, HS.out⟩
set_option maxRecDepth 100000 in
set_option maxHeartbeats 8000000 in
theorem slice_go (h : Raw w base g c u s M) (ho : Ok s M) (n : Int) (hp : ¬ s.clock < s.pause) (hk : s.tx.k = 3) {D P R K : Int} (hD : gd.stepZ s.d = D) (hP : addT s.clock s.tx.b = P) (hR : gd.takeZ s.d s.tx.a = R) (hK : min n (R + 1) = K) :
    Calls Tryz.prog 72 #[ptr g, .int .i64 n] w fun e w' => e = .returned (.int .i64 K) ∧ Set w base g c u { s with d := D, pause := P } M w' := by
  have hab := ho.ab.2.2.2.2 hk
  have hr := gd.takeZ_range s.d s.tx.a (by omega)
  rw [hR] at hr
  have hw : IntKind.i64.wrap (R + 1) = R + 1 := wrap_id (by omega) (by omega)
  have HBL := Lib.hid (fun W => show Calls Tryz.prog 86 #[.int .u64 s.d, .int .i64 s.tx.a] W fun e w' => e = .returned (.tuple #[.int .i64 R, .int .u64 D]) ∧ w' = W from by
    rw [← hD, ← hR]
    exact (gd.below_any s.d s.tx.a (by omega) (by omega) W).mono fun _ _ h => ⟨h.1, h.2.symm⟩)
  have HA := Lib.hid (fun W => show Calls Tryz.prog 38 #[.int .i64 s.clock, .int .i64 s.tx.b] W fun e w' => e = .returned (.int .i64 P) ∧ w' = W from by
    rw [← hP]
    exact (gb.add_any s.clock s.tx.b W).mono fun _ _ h => ⟨h.1, h.2.symm⟩)
  have x15 : w.cell? ⟨g, 15, none⟩ = some (.int .i64 s.clock) := h.cell 15
  have x19 : w.cell? ⟨g, 19, none⟩ = some (.int .i64 s.pause) := h.cell 19
  have HS := Lib.hid ((Set.refl h).on (Below.refl w.heap.size w).drew)
  have HC := Lib.hid (fun W (hw : Set w base g c u s M W) => (⟨hw.1.cell 7, hw.1.cell 5, hw.1.frz 7, (hw.set (i := 7) (v := .int .u64 D) (s' := { s with d := D }) rfl rfl rfl rfl).on (Below.refl _ _).drew⟩ : W.cell? ⟨g, 7, none⟩ = some (.int .u64 s.d) ∧ W.cell? ⟨g, 5, none⟩ = some (.int .i64 s.tx.a) ∧ W.frozen? ⟨g, 7, none⟩ = false ∧ Set w base g c u { s with d := D } M (W.setCell ⟨g, 7, none⟩ (.int .u64 D)).drew))
  have HC2 := Lib.hid (fun W (hw : Set w base g c u { s with d := D } M W) => (⟨hw.1.cell 15, hw.1.cell 6, hw.1.cell 19, hw.1.frz 19, (hw.set (i := 19) (v := .int .i64 P) (s' := { s with d := D, pause := P }) rfl rfl rfl rfl).on (Below.refl _ _).drew⟩ : W.cell? ⟨g, 15, none⟩ = some (.int .i64 s.clock) ∧ W.cell? ⟨g, 6, none⟩ = some (.int .i64 s.tx.b) ∧ W.cell? ⟨g, 19, none⟩ = some (.int .i64 s.pause) ∧ W.frozen? ⟨g, 19, none⟩ = false ∧ Set w base g c u { s with d := D, pause := P } M (W.setCell ⟨g, 19, none⟩ (.int .i64 P)).drew))
  have hd : decide (s.clock < s.pause) = false := by simpa using hp
  clear h ho hab hr hD hP hR hp
  go_enter Tryz.func72, Tryz.ntmps72
  go_wp2_with fail
  refine wp_region_still_tail 8 (by kernel_rfl) (by kernel_rfl) ?_
  simp only [List.take_succ_cons, List.take_zero, List.drop_succ_cons, List.drop_zero]
  repeat still_step
  refine wpStill_nil ?_
  go_wp2_with fail
  obtain ⟨y7, y5, g7, hs2⟩ := HC.out _ HS.out
  have HS2 := Lib.hid hs2
  clear hs2 HC x15 x19 HS
  generalize w.drew = w1 at *
  refine wp_region_still_tail 17 (by kernel_rfl) (by kernel_rfl) ?_
  simp only [List.take_succ_cons, List.take_zero, List.drop_succ_cons, List.drop_zero]
  repeat still_step
  still_call (HBL.out _)
  repeat still_step
  refine wpStill_nil ?_
  go_wp2_with fail
  obtain ⟨z15, z6, z19, g19, hs3⟩ := HC2.out _ HS2.out
  have HS3 := Lib.hid hs3
  clear hs3 HC2 y7 y5 g7 HS2
  generalize (w1.setCell ⟨g, 7, none⟩ (.int .u64 D)).drew = w2 at *
  refine wp_region_still_tail 13 (by kernel_rfl) (by kernel_rfl) ?_
  simp only [List.take_succ_cons, List.take_zero, List.drop_succ_cons, List.drop_zero]
  repeat still_step
  still_call (HA.out _)
  repeat still_step
  refine wpStill_nil ?_
  go_wp2_with fail
  generalize (w2.setCell ⟨g, 19, none⟩ (.int .i64 P)).drew = w3 at *
  try rw [Exit.noGoto_ret]
  go_ret
  exact ⟨rfl, HS3.out⟩
theorem bk_cells (h : Raw w base g c u s M) : w.cell? ⟨g, 8, none⟩ = some (.int .i64 s.bk.r) ∧ w.cell? ⟨g, 9, none⟩ = some (.int .i64 s.bk.u) ∧ w.cell? ⟨g, 10, none⟩ = some (.int .i64 s.bk.l) ∧ w.cell? ⟨g, 11, none⟩ = some (.int .i64 s.bk.t) := ⟨h.cell 8, h.cell 9, h.cell 10, h.cell 11⟩
theorem bk_frz (h : Raw w base g c u s M) : w.frozen? ⟨g, 8, none⟩ = false ∧ w.frozen? ⟨g, 9, none⟩ = false ∧ w.frozen? ⟨g, 10, none⟩ = false ∧ w.frozen? ⟨g, 11, none⟩ = false := ⟨h.frz 8, h.frz 9, h.frz 10, h.frz 11⟩
/-- A bucket is stored. -/
def setB (w : World) (g : Nat) (k : Bkt) : World := (((w.setCell ⟨g, 8, none⟩ (.int .i64 k.r)).setCell ⟨g, 9, none⟩ (.int .i64 k.u)).setCell ⟨g, 10, none⟩ (.int .i64 k.l)).setCell ⟨g, 11, none⟩ (.int .i64 k.t)
theorem Set.bk (h : Set w base g c u s M w') (k : Bkt) : Set w base g c u { s with bk := k } M (setB w' g k) :=
  (((h.set (i := 8) (s' := { s with bk := ⟨k.r, s.bk.u, s.bk.l, s.bk.t⟩ }) rfl rfl rfl rfl).set (i := 9) (s' := { s with bk := ⟨k.r, k.u, s.bk.l, s.bk.t⟩ }) rfl rfl rfl rfl).set (i := 10) (s' := { s with bk := ⟨k.r, k.u, k.l, s.bk.t⟩ }) rfl rfl rfl rfl).set (i := 11) (s' := { s with bk := k }) rfl rfl rfl rfl
set_option maxRecDepth 100000 in
set_option maxHeartbeats 8000000 in
theorem poured_any (h : Raw w base g c u s M) (n : Int) (hr : gb.rightB s.bk.r s.bk.u s.bk.l s.bk.t = true) {L T K D : Int} (hL : gb.fillL s.bk.r s.bk.u s.bk.l s.bk.t s.clock = L) (hT : gb.fillT s.bk.r s.bk.u s.bk.l s.bk.t s.clock = T) (hK : gb.takeB L n = K) (hD : L - K = D) :
    Calls Tryz.prog 71 #[ptr g, .int .i64 n] w fun e w' => e = .returned (.int .i64 K) ∧ Set w base g c u { s with bk := ⟨s.bk.r, s.bk.u, D, T⟩ } M w' := by
  have HT := Lib.hid (fun W => gb.take_b1 hr s.clock n hL hT hK hD W)
  obtain ⟨x8, x9, x10, x11⟩ := bk_cells h
  have x15 : w.cell? ⟨g, 15, none⟩ = some (.int .i64 s.clock) := h.cell 15
  have HC := Lib.hid (fun W (hb : Below w.drew.heap.size w.drew W) => (⟨bk_cells (h.drew.on hb), bk_frz (h.drew.on hb), Set.bk (((Set.refl h).on (Below.refl w.heap.size w).drew).on hb) ⟨s.bk.r, s.bk.u, D, T⟩⟩ : (W.cell? ⟨g, 8, none⟩ = some (.int .i64 s.bk.r) ∧ W.cell? ⟨g, 9, none⟩ = some (.int .i64 s.bk.u) ∧ W.cell? ⟨g, 10, none⟩ = some (.int .i64 s.bk.l) ∧ W.cell? ⟨g, 11, none⟩ = some (.int .i64 s.bk.t)) ∧ (W.frozen? ⟨g, 8, none⟩ = false ∧ W.frozen? ⟨g, 9, none⟩ = false ∧ W.frozen? ⟨g, 10, none⟩ = false ∧ W.frozen? ⟨g, 11, none⟩ = false) ∧ Set w base g c u { s with bk := ⟨s.bk.r, s.bk.u, D, T⟩ } M (setB W g ⟨s.bk.r, s.bk.u, D, T⟩)))
  clear h hr hL hT hK hD
  go_enter Tryz.func71, Tryz.ntmps71
  go_wp2_with fail
  go_region_law
    (first
      | (go_simp; go_at_call 92; (with_reducible refine Calls.mono (HT.out _) ?_); rintro e w4 ⟨rfl, hb⟩; (obtain ⟨⟨y8, y9, y10, y11⟩, ⟨f8, f9, f10, f11⟩, hs⟩ := HC.out w4 hb); clear hb))
  all_goals (
    have HS := Lib.hid hs
    clear hs
    go_wp2_with fail
    generalize hW : setB w4 g ⟨s.bk.r, s.bk.u, D, T⟩ = W9 at *
    unfold setB at hW
    dsimp only at hW
    try rw [hW]
    try rw [Exit.noGoto_ret]
    go_ret
    exact ⟨rfl, HS.out⟩)
end Go.Proofs.YtlbihcpglcdmmaaGreat
namespace Go.Proofs.YtlbihcpglcdmmaaGreat
open Go.RowKit

variable {w w' w'' w0 : World} {base g c M M' : Nat} {u u' u'' : gc.U} {s s' s'' : St}
def fV (f : FuncId) : Value := .func (.func f) #[] #[]
def giveV : Value := .agg #[fV 70, fV 70, fV 71, fV 72, fV 73, fV 70, fV 74, fV 70]
def set8 (w : World) (g : Nat) : World := ((((((((((((((((w).setCell ⟨g, 0, none⟩ (Value.func (.func 70) #[] #[]))).setCell ⟨g, 1, none⟩ (Value.func (.func 70) #[] #[]))).setCell ⟨g, 2, none⟩ (Value.func (.func 71) #[] #[]))).setCell ⟨g, 3, none⟩ (Value.func (.func 72) #[] #[]))).setCell ⟨g, 4, none⟩ (Value.func (.func 73) #[] #[]))).setCell ⟨g, 5, none⟩ (Value.func (.func 70) #[] #[]))).setCell ⟨g, 6, none⟩ (Value.func (.func 74) #[] #[]))).setCell ⟨g, 7, none⟩ (Value.func (.func 70) #[] #[]))
theorem set8_heap {w : World} {g : Nat} {a b c d e f h i : Value} {T : TypeId} (hg : w.heap[g]? = some (.cells #[a, b, c, d, e, f, h, i] T (0, 0))) : (set8 w g).heap[g]? = some (.cells #[(Value.func (.func 70) #[] #[]), (Value.func (.func 70) #[] #[]), (Value.func (.func 71) #[] #[]), (Value.func (.func 72) #[] #[]), (Value.func (.func 73) #[] #[]), (Value.func (.func 70) #[] #[]), (Value.func (.func 74) #[] #[]), (Value.func (.func 70) #[] #[])] T (0, 0)) := by
  unfold set8
  have h0 : _ = some (Obj.cells #[(Value.func (.func 70) #[] #[]), b, c, d, e, f, h, i] T (0, 0)) := gb.set_heap (i := 0) hg (Value.func (.func 70) #[] #[])
  have h1 : _ = some (Obj.cells #[(Value.func (.func 70) #[] #[]), (Value.func (.func 70) #[] #[]), c, d, e, f, h, i] T (0, 0)) := gb.set_heap (i := 1) h0 (Value.func (.func 70) #[] #[])
  have h2 : _ = some (Obj.cells #[(Value.func (.func 70) #[] #[]), (Value.func (.func 70) #[] #[]), (Value.func (.func 71) #[] #[]), d, e, f, h, i] T (0, 0)) := gb.set_heap (i := 2) h1 (Value.func (.func 71) #[] #[])
  have h3 : _ = some (Obj.cells #[(Value.func (.func 70) #[] #[]), (Value.func (.func 70) #[] #[]), (Value.func (.func 71) #[] #[]), (Value.func (.func 72) #[] #[]), e, f, h, i] T (0, 0)) := gb.set_heap (i := 3) h2 (Value.func (.func 72) #[] #[])
  have h4 : _ = some (Obj.cells #[(Value.func (.func 70) #[] #[]), (Value.func (.func 70) #[] #[]), (Value.func (.func 71) #[] #[]), (Value.func (.func 72) #[] #[]), (Value.func (.func 73) #[] #[]), f, h, i] T (0, 0)) := gb.set_heap (i := 4) h3 (Value.func (.func 73) #[] #[])
  have h5 : _ = some (Obj.cells #[(Value.func (.func 70) #[] #[]), (Value.func (.func 70) #[] #[]), (Value.func (.func 71) #[] #[]), (Value.func (.func 72) #[] #[]), (Value.func (.func 73) #[] #[]), (Value.func (.func 70) #[] #[]), h, i] T (0, 0)) := gb.set_heap (i := 5) h4 (Value.func (.func 70) #[] #[])
  have h6 : _ = some (Obj.cells #[(Value.func (.func 70) #[] #[]), (Value.func (.func 70) #[] #[]), (Value.func (.func 71) #[] #[]), (Value.func (.func 72) #[] #[]), (Value.func (.func 73) #[] #[]), (Value.func (.func 70) #[] #[]), (Value.func (.func 74) #[] #[]), i] T (0, 0)) := gb.set_heap (i := 6) h5 (Value.func (.func 74) #[] #[])
  have h7 : _ = some (Obj.cells #[(Value.func (.func 70) #[] #[]), (Value.func (.func 70) #[] #[]), (Value.func (.func 71) #[] #[]), (Value.func (.func 72) #[] #[]), (Value.func (.func 73) #[] #[]), (Value.func (.func 70) #[] #[]), (Value.func (.func 74) #[] #[]), (Value.func (.func 70) #[] #[])] T (0, 0)) := gb.set_heap (i := 7) h6 (Value.func (.func 70) #[] #[])
  exact h7
theorem set8_below {B : Nat} {w0 w : World} {g : Nat} (h : Below B w0 w) (hg : B ≤ g) : Below B w0 (set8 w g) := ((((((((h.setCell (p := ⟨g, 0, none⟩) hg _).setCell (p := ⟨g, 1, none⟩) hg _).setCell (p := ⟨g, 2, none⟩) hg _).setCell (p := ⟨g, 3, none⟩) hg _).setCell (p := ⟨g, 4, none⟩) hg _).setCell (p := ⟨g, 5, none⟩) hg _).setCell (p := ⟨g, 6, none⟩) hg _).setCell (p := ⟨g, 7, none⟩) hg _)
set_option maxRecDepth 100000 in
set_option maxHeartbeats 4000000 in
theorem gives_any (w : World) : Calls Tryz.prog 47 #[] w fun e w' => e = .returned giveV ∧ Below w.heap.size w w' := by
  have hb0 : Below w.heap.size w (w.alloc (.cells #[Value.nilFunc, Value.nilFunc, Value.nilFunc, Value.nilFunc, Value.nilFunc, Value.nilFunc, Value.nilFunc, Value.nilFunc] 91)) := (Below.refl _ _).alloc (Nat.le_refl _) _
  have hg0 := heap_alloc_new w (.cells #[Value.nilFunc, Value.nilFunc, Value.nilFunc, Value.nilFunc, Value.nilFunc, Value.nilFunc, Value.nilFunc, Value.nilFunc] 91)
  obtain ⟨W0, hW0⟩ : ∃ W0, w.alloc (.cells #[Value.nilFunc, Value.nilFunc, Value.nilFunc, Value.nilFunc, Value.nilFunc, Value.nilFunc, Value.nilFunc, Value.nilFunc] 91) = W0 := ⟨_, rfl⟩
  rw [hW0] at hb0 hg0
  have x0 : W0.cell? ⟨w.heap.size, 0, none⟩ = some Value.nilFunc := cell_of_row _ _ 0 _ _ _ hg0
  have f0 : W0.frozen? ⟨w.heap.size, 0, none⟩ = false := gb.frozen_at hg0
  have x1 : W0.cell? ⟨w.heap.size, 1, none⟩ = some Value.nilFunc := cell_of_row _ _ 1 _ _ _ hg0
  have f1 : W0.frozen? ⟨w.heap.size, 1, none⟩ = false := gb.frozen_at hg0
  have x2 : W0.cell? ⟨w.heap.size, 2, none⟩ = some Value.nilFunc := cell_of_row _ _ 2 _ _ _ hg0
  have f2 : W0.frozen? ⟨w.heap.size, 2, none⟩ = false := gb.frozen_at hg0
  have x3 : W0.cell? ⟨w.heap.size, 3, none⟩ = some Value.nilFunc := cell_of_row _ _ 3 _ _ _ hg0
  have f3 : W0.frozen? ⟨w.heap.size, 3, none⟩ = false := gb.frozen_at hg0
  have x4 : W0.cell? ⟨w.heap.size, 4, none⟩ = some Value.nilFunc := cell_of_row _ _ 4 _ _ _ hg0
  have f4 : W0.frozen? ⟨w.heap.size, 4, none⟩ = false := gb.frozen_at hg0
  have x5 : W0.cell? ⟨w.heap.size, 5, none⟩ = some Value.nilFunc := cell_of_row _ _ 5 _ _ _ hg0
  have f5 : W0.frozen? ⟨w.heap.size, 5, none⟩ = false := gb.frozen_at hg0
  have x6 : W0.cell? ⟨w.heap.size, 6, none⟩ = some Value.nilFunc := cell_of_row _ _ 6 _ _ _ hg0
  have f6 : W0.frozen? ⟨w.heap.size, 6, none⟩ = false := gb.frozen_at hg0
  have x7 : W0.cell? ⟨w.heap.size, 7, none⟩ = some Value.nilFunc := cell_of_row _ _ 7 _ _ _ hg0
  have f7 : W0.frozen? ⟨w.heap.size, 7, none⟩ = false := gb.frozen_at hg0
  have hz := set8_heap hg0
  have HD := Lib.hid (set8_below hb0 (Nat.le_refl _))
  have hlt := gb.blk_lt hg0
  have ks : ∀ (a : Addr) (m : Mode) (f : Fn) (W : World), Sem.run Tryz.prog (store a (.func f #[] #[]) m) W = stored Tryz.prog W a (.func f #[] #[]) m := fun a m f W => run_store Tryz.prog W a _ m rfl
  clear hb0 hg0
  go_enter Tryz.func47, Tryz.ntmps47
  go_wp2_with fail
  generalize hW : set8 W0 w.heap.size = W9 at *
  unfold set8 at hW
  rw [hW]
  clear hW
  have z0 : W9.cell? ⟨w.heap.size, 0, none⟩ = some (Value.func (.func 70) #[] #[]) := cell_of_row _ _ 0 _ _ _ hz
  have z1 : W9.cell? ⟨w.heap.size, 1, none⟩ = some (Value.func (.func 70) #[] #[]) := cell_of_row _ _ 1 _ _ _ hz
  have z2 : W9.cell? ⟨w.heap.size, 2, none⟩ = some (Value.func (.func 71) #[] #[]) := cell_of_row _ _ 2 _ _ _ hz
  have z3 : W9.cell? ⟨w.heap.size, 3, none⟩ = some (Value.func (.func 72) #[] #[]) := cell_of_row _ _ 3 _ _ _ hz
  have z4 : W9.cell? ⟨w.heap.size, 4, none⟩ = some (Value.func (.func 73) #[] #[]) := cell_of_row _ _ 4 _ _ _ hz
  have z5 : W9.cell? ⟨w.heap.size, 5, none⟩ = some (Value.func (.func 70) #[] #[]) := cell_of_row _ _ 5 _ _ _ hz
  have z6 : W9.cell? ⟨w.heap.size, 6, none⟩ = some (Value.func (.func 74) #[] #[]) := cell_of_row _ _ 6 _ _ _ hz
  have z7 : W9.cell? ⟨w.heap.size, 7, none⟩ = some (Value.func (.func 70) #[] #[]) := cell_of_row _ _ 7 _ _ _ hz
  exact bodyPost_ret (v := giveV) (by simp [results, Tryz.results47, go_sem, z0, z1, z2, z3, z4, z5, z6, z7, giveV, fV]) rfl ⟨rfl, HD.out⟩
end Go.Proofs.YtlbihcpglcdmmaaGreat
namespace Go.Proofs.YtlbihcpglcdmmaaGreat
open Go.RowKit

variable {w w' w'' w0 : World} {base g c M M' : Nat} {u u' u'' : gc.U} {s s' s'' s1 s2 : St}
/-- What a call leaves that hands a row back. -/
def DidQ (w : World) (base g c : Nat) (u : gc.U) (s : St) (M : Nat) (q : Option Addr) (w' : World) : Prop := ∃ u', Raw w' base g c u' s M ∧ Mv w w' g c u u' ∧ gc.Own q c u'
def Tk (w : World) (base g c : Nat) (u : gc.U) (s : St) (M : Nat) (T : ByteArray) (K : Nat) (e : Ending) (w' : World) : Prop := ∃ q d, e = .returned (.slice q K d) ∧ Lib.BytesIn w' q K (gc.nums T) ∧ T.size = K ∧ K ≤ d ∧ d ≤ 9223372036854775807 ∧ DidQ w base g c u s M q w'
theorem Set.thenQ (h : Set w base g c u s M w') {q : Option Addr} (k : DidQ w' base g c u s' M' q w'') : DidQ w base g c u s' M' q w'' := by
  obtain ⟨u', h1, h2, h3⟩ := k
  exact ⟨u', h1, (h.2.mv c u).trans h2, h3⟩
theorem Set.thenT (h : Set w base g c u s M w') {T : ByteArray} {K : Nat} {e : Ending} (k : Tk w' base g c u s' M' T K e w'') : Tk w base g c u s' M' T K e w'' := by
  obtain ⟨q, d, h1, h2, h3, h4, h5, h6⟩ := k
  exact ⟨q, d, h1, h2, h3, h4, h5, h.thenQ h6⟩
/-- The cargo's Take. -/
theorem ctake (h : Raw w base g c u s M) (now most : Int) {K : Nat} (hK : gc.takeK s.A now most = K) :
    Calls Tryz.prog 48 #[ptr c, .int .i64 now, .int .i64 most] w (Tk w base g c u { s with S := s.S.extract K s.S.size, A := s.A.drop K } M (s.S.extract 0 K) K) := by
  have hz := gc.takeK_size h.car hK
  have h' := h.car
  obtain ⟨ms, G, hr, hl⟩ := h'
  refine (gc.take_raw hr hl now most hK).mono ?_
  rintro e w' ⟨q, d, rfl, h1, h2, h3, h4⟩
  exact ⟨q, d, rfl, h1, hz, h2, h3, h.putq h4⟩
theorem cdrain (h : Raw w base g c u s M) :
    Calls Tryz.prog 33 #[ptr c] w (Tk w base g c u { s with S := ⟨#[]⟩, A := [] } M s.S s.S.size) := by
  have h' := h.car
  have hlen := h'.inv.len
  obtain ⟨ms, G, hr, hl⟩ := h'
  refine (gc.drain_raw hr hl).mono ?_
  rintro e w' ⟨q, d, rfl, h1, h2, h3, h4⟩
  have e1 : s.S.extract 0 s.S.size = s.S := by simp
  have e2 : s.S.extract s.S.size s.S.size = ⟨#[]⟩ := by
    apply ByteArray.ext
    apply Array.eq_empty_of_size_eq_zero
    have : (s.S.extract s.S.size s.S.size).size = 0 := by rw [ByteArray.size_extract]; omega
    exact this
  have e3 : s.A.drop s.S.size = [] := by rw [← hlen, List.drop_length]
  rw [e1] at h1
  rw [e2, e3] at h4
  exact ⟨q, d, rfl, h1, rfl, h2, h3, h.putq h4⟩
set_option maxRecDepth 100000 in
set_option maxHeartbeats 4000000 in
theorem take_st (h : Raw w base g c u s M) (now most : Int) (hs : (lookS s now).st ≠ 0) :
    Calls Tryz.prog 22 #[ptr g, .int .i64 now, .int .i64 most] w fun e w' => e = .returned (.slice none 0 0) ∧ Set w base g c u (lookS s now) M w' := by
  have HT := Lib.hid (state_any h now)
  have e1 : ((lookS s now).st != 0) = true := by simpa using hs
  have e2 : decide ((lookS s now).st = 0) = false := by simpa using hs
  clear h hs
  go_enter Tryz.func22, Tryz.ntmps22
  go_wp2_with fail
  refine HT.out.mono ?_
  rintro e w1 ⟨rfl, h1⟩
  have H1 := Lib.hid h1
  clear h1 HT
  go_wp2_with fail
  try rw [Exit.noGoto_ret]
  go_ret
  exact ⟨rfl, H1.out⟩
set_option maxRecDepth 100000 in
set_option maxHeartbeats 4000000 in
theorem take_none (h : Raw w base g c u s M) (now most : Int) (hs : (lookS s now).st = 0) {n : Int} (hn : min most (gc.readyN (lookS s now).A (lookS s now).clock : Int) = n) (h1 : n < 1) :
    Calls Tryz.prog 22 #[ptr g, .int .i64 now, .int .i64 most] w fun e w' => e = .returned (.slice none 0 0) ∧ Set w base g c u (lookS s now) M w' := by
  have HT := Lib.hid (state_any h now)
  rw [hs] at HT
  have hd : decide (n < 1) = true := by simpa using h1
  clear h hs
  go_enter Tryz.func22, Tryz.ntmps22
  go_wp2_with fail
  refine HT.out.mono ?_
  rintro e w1 ⟨rfl, hx⟩
  have H1 := Lib.hid hx
  have x0 : w1.cell? ⟨g, 0, none⟩ = some (.pointer (some ⟨c, 0, none⟩)) := hx.1.cell 0
  have x15 : w1.cell? ⟨g, 15, none⟩ = some (.int .i64 (lookS s now).clock) := hx.1.cell 15
  have HR := Lib.hid (gc.ready_al (hx.on (Below.refl _ w1).drew).1.car (lookS s now).clock)
  clear hx HT
  go_wp2_with fail
  go_region_law
    (first
      | (go_simp; go_at_call 46; (with_reducible refine Calls.mono HR.out ?_); rintro e w4 ⟨rfl, hb⟩))
  all_goals (
    have HS := Lib.hid ((H1.out.on (Below.refl _ w1).drew).on hb)
    clear hb x0 x15 H1 HR
    go_wp2_with fail
    try rw [Exit.noGoto_ret]
    go_ret
    exact ⟨rfl, HS.out⟩)
end Go.Proofs.YtlbihcpglcdmmaaGreat

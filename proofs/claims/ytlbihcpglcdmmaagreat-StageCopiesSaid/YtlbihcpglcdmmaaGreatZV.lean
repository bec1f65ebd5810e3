/-
  Contracts: Update of the document. Conditions: as each states.
  Contracts: Update of the document. Conditions: as each states.
-/
import Derived.Test.YtlbihcpglcdmmaaGreatZT
import Derived.Test.YtlbihcpglcdmmaaGreatZU
namespace Go.Proofs.YtlbihcpglcdmmaaGreat
open Go.RowKit

attribute [local go_sem ↓] to_loadR to_storeR
attribute [local go_sem] run_loadR run_storeR rval
variable {w w' : World} {q n c : Nat} {p : Option Addr} {s s' : St}
/-- A toxic is stored into a stage. -/
def putT (w : World) (q : Nat) (t : Tox) : World := ((((((w).setCell ⟨q, 0, none⟩ (.string t.s)).setCell ⟨q, 1, none⟩ (.int .i64 t.k)).setCell ⟨q, 2, none⟩ (.bool t.up)).setCell ⟨q, 3, none⟩ (.int .i64 t.o)).setCell ⟨q, 4, none⟩ (.int .i64 t.a)).setCell ⟨q, 5, none⟩ (.int .i64 t.b)
theorem RAt.putT (h : RAt w q p n c s) (t : Tox) : RAt (putT w q t) q p n c { s with tx := t } := (((((h.set (i := 0) (s' := { s with tx := ⟨t.s, s.tx.k, s.tx.up, s.tx.o, s.tx.a, s.tx.b⟩ }) (p' := p) (n' := n) (c' := c) rfl).set (i := 1) (s' := { s with tx := ⟨t.s, t.k, s.tx.up, s.tx.o, s.tx.a, s.tx.b⟩ }) (p' := p) (n' := n) (c' := c) rfl).set (i := 2) (s' := { s with tx := ⟨t.s, t.k, t.up, s.tx.o, s.tx.a, s.tx.b⟩ }) (p' := p) (n' := n) (c' := c) rfl).set (i := 3) (s' := { s with tx := ⟨t.s, t.k, t.up, t.o, s.tx.a, s.tx.b⟩ }) (p' := p) (n' := n) (c' := c) rfl).set (i := 4) (s' := { s with tx := ⟨t.s, t.k, t.up, t.o, t.a, s.tx.b⟩ }) (p' := p) (n' := n) (c' := c) rfl).set (i := 5) (s' := { s with tx := t }) (p' := p) (n' := n) (c' := c) rfl
theorem putT_far {i : Nat} (hi : i ≠ q) (t : Tox) : (putT w q t).heap[i]? = w.heap[i]? := by
  unfold Go.Proofs.YtlbihcpglcdmmaaGreat.putT
  rw [Below.heap_setCell _ _ _ _ hi, Below.heap_setCell _ _ _ _ hi, Below.heap_setCell _ _ _ _ hi, Below.heap_setCell _ _ _ _ hi, Below.heap_setCell _ _ _ _ hi, Below.heap_setCell _ _ _ _ hi]
theorem putT_below {B : Nat} {w0 : World} (h : Below B w0 w) (hg : B ≤ q) (t : Tox) : Below B w0 (putT w q t) := ((((((h.setCell (p := ⟨q, 0, none⟩) hg _).setCell (p := ⟨q, 1, none⟩) hg _).setCell (p := ⟨q, 2, none⟩) hg _).setCell (p := ⟨q, 3, none⟩) hg _).setCell (p := ⟨q, 4, none⟩) hg _).setCell (p := ⟨q, 5, none⟩) hg _)
theorem Four.putT {w W : World} {o : Op} (h : Four w W o p n c s) (t : Tox) : Four w (putT W w.heap.size t) o p n c { s with tx := t } :=
  ⟨h.q.putT t, (putT_far (show w.heap.size + 1 ≠ w.heap.size by omega) t).trans h.o, (putT_far (show w.heap.size + 2 ≠ w.heap.size by omega) t).trans h.r, (putT_far (show w.heap.size + 3 ≠ w.heap.size by omega) t).trans h.a, putT_below h.b (Nat.le_refl _) t, rowA_typed h.row fun _ _ _ hb => putT_far (h.q.not_int hb) t⟩
theorem Four.putB {w W : World} {o : Op} (h : Four w W o p n c s) (k : Bkt) : Four w (putB W w.heap.size k) o p n c { s with bk := k } :=
  ⟨h.q.putB k, (putB_far (show w.heap.size + 1 ≠ w.heap.size by omega) k).trans h.o, (putB_far (show w.heap.size + 2 ≠ w.heap.size by omega) k).trans h.r, (putB_far (show w.heap.size + 3 ≠ w.heap.size by omega) k).trans h.a, putB_below h.b (Nat.le_refl _) k, rowA_typed h.row fun _ _ _ hb => putB_far (h.q.not_int hb) k⟩
theorem tox_cells10 (h : RAt w q p n c s) : w.cell? ⟨q, 0, none⟩ = some (.string s.tx.s) ∧ w.cell? ⟨q, 1, none⟩ = some (.int .i64 s.tx.k) ∧ w.cell? ⟨q, 2, none⟩ = some (.bool s.tx.up) ∧ w.cell? ⟨q, 3, none⟩ = some (.int .i64 s.tx.o) ∧ w.cell? ⟨q, 4, none⟩ = some (.int .i64 s.tx.a) ∧ w.cell? ⟨q, 5, none⟩ = some (.int .i64 s.tx.b) := ⟨h.cell 0, h.cell 1, h.cell 2, h.cell 3, h.cell 4, h.cell 5⟩
theorem tox_frz10 (h : RAt w q p n c s) : w.frozen? ⟨q, 0, none⟩ = false ∧ w.frozen? ⟨q, 1, none⟩ = false ∧ w.frozen? ⟨q, 2, none⟩ = false ∧ w.frozen? ⟨q, 3, none⟩ = false ∧ w.frozen? ⟨q, 4, none⟩ = false ∧ w.frozen? ⟨q, 5, none⟩ = false := ⟨h.frz 0, h.frz 1, h.frz 2, h.frz 3, h.frz 4, h.frz 5⟩
set_option maxRecDepth 100000 in
set_option maxHeartbeats 8000000 in
theorem rupd_91 (p : Option Addr) (n c : Nat) (s : St) (o : Op) (w : World) (hrow : gc.RowA w p n c s.A) (hk : o.t.k ≠ s.tx.k) : Calls Tryz.prog 30 #[.agg (rC p n c s), .agg #[.int .i64 o.kind, .int .i64 o.now, .int .i64 o.n, .string o.s, .string o.t.s, .int .i64 o.t.k, .bool o.t.up, .int .i64 o.t.o, .int .i64 o.t.a, .int .i64 o.t.b]] w (Brg s ⟨0, ⟨#[]⟩, 91⟩ w) := by
  have e1 : (o.t.k != s.tx.k) = true := by simpa using hk
  have e2 : decide (o.t.k = s.tx.k) = false := by simpa using hk
  obtain ⟨W0, hW0, h4⟩ := four_alloc (s := s) o hrow
  have hW0 : (((w.alloc (.cells (rC p n c s) 38)).alloc (.cells #[.int .i64 o.kind, .int .i64 o.now, .int .i64 o.n, .string o.s, .string o.t.s, .int .i64 o.t.k, .bool o.t.up, .int .i64 o.t.o, .int .i64 o.t.a, .int .i64 o.t.b] 44)).alloc (.cells #[.string ⟨#[]⟩, .int .i64 0, .bool false, .int .i64 0, .int .i64 0, .int .i64 0, .int .u64 0, .int .i64 0, .int .i64 0, .int .i64 0, .int .i64 0, .string ⟨#[]⟩, .slice none 0 0, .int .i64 0, .int .i64 0, .int .i64 0, .int .i64 0, .int .i64 0, .int .i64 0, .bool false, .int .i64 0, .int .i64 0] 38)).alloc (.cells #[.int .i64 0, .string ⟨#[]⟩, .int .i64 0] 46) = W0 := hW0
  have H0 := Lib.hid h4
  have i0 := h4.q.is
  have k0 := h4.q.cells
  have hlt := h4.lt
  clear h4 hrow hk
  have y5 : W0.cell? ⟨w.heap.size + 1, 5, none⟩ = some (.int .i64 o.t.k) := H0.out.oc 5
  have x1 : W0.cell? ⟨w.heap.size, 1, none⟩ = some (.int .i64 s.tx.k) := H0.out.q.cell 1
  go_enter Tryz.func30, Tryz.ntmps30
  go_upto_region 2 with fail
  clear hW0 i0 k0 hlt y5 x1 e1 e2
  obtain ⟨⟨t0, t1, t2⟩, ⟨g0, g1, g2⟩, hz, hza, hzr, hzb⟩ := H0.out.fin (p' := p) (n' := n) (c' := c) (s' := s) H0.out.row ⟨0, ⟨#[]⟩, 91⟩
  have HZ := Lib.hid hz
  have HZA := Lib.hid hza
  have HZR := Lib.hid hzr
  have HZB := Lib.hid hzb
  have i1z := H0.out.q.is
  have k1z := H0.out.q.cells
  have i2z := H0.out.r.is
  have hltz := H0.out.lt
  clear hz hza hzr hzb
  go_wp2_with fail
  generalize hWf : finW W0 (w.heap.size + 2) (w.heap.size + 3) (rC p n c s) ⟨0, ⟨#[]⟩, 91⟩ = wz at *
  unfold finW at hWf
  dsimp only at hWf
  try rw [hWf]
  exact bodyPost_ret (v := .tuple #[.agg (rC p n c s), .agg #[.int .i64 0, .string ⟨#[]⟩, .int .i64 91]]) (by simp [results, Tryz.results30, asAddr, loadVar_R HZ.out, loadVar_A HZA.out]) rfl ⟨p, n, c, rfl, HZR.out, HZB.out⟩
set_option maxRecDepth 100000 in
set_option maxHeartbeats 8000000 in
theorem rupd_0 (p : Option Addr) (n c : Nat) (s : St) (o : Op) (w : World) (hrow : gc.RowA w p n c s.A) (hk : o.t.k = s.tx.k) (h0 : o.t.k = 0) : Calls Tryz.prog 30 #[.agg (rC p n c s), .agg #[.int .i64 o.kind, .int .i64 o.now, .int .i64 o.n, .string o.s, .string o.t.s, .int .i64 o.t.k, .bool o.t.up, .int .i64 o.t.o, .int .i64 o.t.a, .int .i64 o.t.b]] w (Brg s ⟨0, ⟨#[]⟩, 0⟩ w) := by
  have e1 : (o.t.k == 0) = true := by simpa using h0
  have e2 : decide (o.t.k = 0) = true := by simpa using h0
  obtain ⟨W0, hW0, h4⟩ := four_alloc (s := s) o hrow
  have hW0 : (((w.alloc (.cells (rC p n c s) 38)).alloc (.cells #[.int .i64 o.kind, .int .i64 o.now, .int .i64 o.n, .string o.s, .string o.t.s, .int .i64 o.t.k, .bool o.t.up, .int .i64 o.t.o, .int .i64 o.t.a, .int .i64 o.t.b] 44)).alloc (.cells #[.string ⟨#[]⟩, .int .i64 0, .bool false, .int .i64 0, .int .i64 0, .int .i64 0, .int .u64 0, .int .i64 0, .int .i64 0, .int .i64 0, .int .i64 0, .string ⟨#[]⟩, .slice none 0 0, .int .i64 0, .int .i64 0, .int .i64 0, .int .i64 0, .int .i64 0, .int .i64 0, .bool false, .int .i64 0, .int .i64 0] 38)).alloc (.cells #[.int .i64 0, .string ⟨#[]⟩, .int .i64 0] 46) = W0 := hW0
  have H0 := Lib.hid h4
  have i0 := h4.q.is
  have k0 := h4.q.cells
  have hlt := h4.lt
  clear h4 hrow h0
  have y5 : W0.cell? ⟨w.heap.size + 1, 5, none⟩ = some (.int .i64 o.t.k) := H0.out.oc 5
  have x1 : W0.cell? ⟨w.heap.size, 1, none⟩ = some (.int .i64 s.tx.k) := H0.out.q.cell 1
  rw [← hk] at x1
  clear hk
  go_enter Tryz.func30, Tryz.ntmps30
  go_upto_region 4 with fail
  clear hW0 i0 k0 hlt y5 x1 e1 e2
  obtain ⟨⟨t0, t1, t2⟩, ⟨g0, g1, g2⟩, hz, hza, hzr, hzb⟩ := H0.out.fin (p' := p) (n' := n) (c' := c) (s' := s) H0.out.row ⟨0, ⟨#[]⟩, 0⟩
  have HZ := Lib.hid hz
  have HZA := Lib.hid hza
  have HZR := Lib.hid hzr
  have HZB := Lib.hid hzb
  have i1z := H0.out.q.is
  have k1z := H0.out.q.cells
  have i2z := H0.out.r.is
  have hltz := H0.out.lt
  clear hz hza hzr hzb
  go_wp2_with fail
  generalize hWf : finW W0 (w.heap.size + 2) (w.heap.size + 3) (rC p n c s) ⟨0, ⟨#[]⟩, 0⟩ = wz at *
  unfold finW at hWf
  dsimp only at hWf
  try rw [hWf]
  exact bodyPost_ret (v := .tuple #[.agg (rC p n c s), .agg #[.int .i64 0, .string ⟨#[]⟩, .int .i64 0]]) (by simp [results, Tryz.results30, asAddr, loadVar_R HZ.out, loadVar_A HZA.out]) rfl ⟨p, n, c, rfl, HZR.out, HZB.out⟩
set_option maxRecDepth 100000 in
set_option maxHeartbeats 8000000 in
theorem rupd_e (p : Option Addr) (n c : Nat) (s : St) (o : Op) (w : World) (hrow : gc.RowA w p n c s.A) (ht : o.t.s.size ≤ maxLen) (hk : o.t.k = s.tx.k) (h0 : o.t.k ≠ 0) {E : Int} (hE : o.t.chk = E) (hE0 : E ≠ 0) : Calls Tryz.prog 30 #[.agg (rC p n c s), .agg #[.int .i64 o.kind, .int .i64 o.now, .int .i64 o.n, .string o.s, .string o.t.s, .int .i64 o.t.k, .bool o.t.up, .int .i64 o.t.o, .int .i64 o.t.a, .int .i64 o.t.b]] w (Brg s ⟨0, ⟨#[]⟩, E⟩ w) := by
  have e1 : (o.t.k == 0) = false := by simpa using h0
  have e2 : decide (o.t.k = 0) = false := by simpa using h0
  have HCK := Lib.hid (fun W => show Calls Tryz.prog 18 #[.agg #[.string o.t.s, .int .i64 o.t.k, .bool o.t.up, .int .i64 o.t.o, .int .i64 o.t.a, .int .i64 o.t.b]] W fun e w' => e = .returned (.int .i64 E) ∧ Below W.heap.size W w' from by rw [← hE]; exact gx.rcheck_max o.t.s ht o.t.k o.t.up o.t.o o.t.a o.t.b W)
  have e3 : (E != 0) = true := by simpa using hE0
  have e4 : decide (E = 0) = false := by simpa using hE0
  obtain ⟨W0, hW0, h4⟩ := four_alloc (s := s) o hrow
  have hW0 : (((w.alloc (.cells (rC p n c s) 38)).alloc (.cells #[.int .i64 o.kind, .int .i64 o.now, .int .i64 o.n, .string o.s, .string o.t.s, .int .i64 o.t.k, .bool o.t.up, .int .i64 o.t.o, .int .i64 o.t.a, .int .i64 o.t.b] 44)).alloc (.cells #[.string ⟨#[]⟩, .int .i64 0, .bool false, .int .i64 0, .int .i64 0, .int .i64 0, .int .u64 0, .int .i64 0, .int .i64 0, .int .i64 0, .int .i64 0, .string ⟨#[]⟩, .slice none 0 0, .int .i64 0, .int .i64 0, .int .i64 0, .int .i64 0, .int .i64 0, .int .i64 0, .bool false, .int .i64 0, .int .i64 0] 38)).alloc (.cells #[.int .i64 0, .string ⟨#[]⟩, .int .i64 0] 46) = W0 := hW0
  have H0 := Lib.hid h4
  have i0 := h4.q.is
  have k0 := h4.q.cells
  have hlt := h4.lt
  clear h4 hrow h0 hE hE0 ht
  have y4 : W0.cell? ⟨w.heap.size + 1, 4, none⟩ = some (.string o.t.s) := H0.out.oc 4
  have y5 : W0.cell? ⟨w.heap.size + 1, 5, none⟩ = some (.int .i64 o.t.k) := H0.out.oc 5
  have y6 : W0.cell? ⟨w.heap.size + 1, 6, none⟩ = some (.bool o.t.up) := H0.out.oc 6
  have y7 : W0.cell? ⟨w.heap.size + 1, 7, none⟩ = some (.int .i64 o.t.o) := H0.out.oc 7
  have y8 : W0.cell? ⟨w.heap.size + 1, 8, none⟩ = some (.int .i64 o.t.a) := H0.out.oc 8
  have y9 : W0.cell? ⟨w.heap.size + 1, 9, none⟩ = some (.int .i64 o.t.b) := H0.out.oc 9
  have x1 : W0.cell? ⟨w.heap.size, 1, none⟩ = some (.int .i64 s.tx.k) := H0.out.q.cell 1
  rw [← hk] at x1
  clear hk
  go_enter Tryz.func30, Tryz.ntmps30
  go_wp2_with fail
  clear hW0 i0 k0 hlt x1 y4 y5 y6 y7 y8 y9 e1 e2
  refine (HCK.out _).mono ?_
  rintro e w1 ⟨rfl, hb1⟩
  have H1 := Lib.hid (H0.out.on hb1)
  clear hb1 H0 HCK
  go_upto_region 7 with fail
  clear e3 e4
  obtain ⟨⟨t0, t1, t2⟩, ⟨g0, g1, g2⟩, hz, hza, hzr, hzb⟩ := H1.out.fin (p' := p) (n' := n) (c' := c) (s' := s) H1.out.row ⟨0, ⟨#[]⟩, E⟩
  have HZ := Lib.hid hz
  have HZA := Lib.hid hza
  have HZR := Lib.hid hzr
  have HZB := Lib.hid hzb
  have i1z := H1.out.q.is
  have k1z := H1.out.q.cells
  have i2z := H1.out.r.is
  have hltz := H1.out.lt
  clear hz hza hzr hzb
  go_wp2_with fail
  generalize hWf : finW w1 (w.heap.size + 2) (w.heap.size + 3) (rC p n c s) ⟨0, ⟨#[]⟩, E⟩ = wz at *
  unfold finW at hWf
  dsimp only at hWf
  try rw [hWf]
  exact bodyPost_ret (v := .tuple #[.agg (rC p n c s), .agg #[.int .i64 0, .string ⟨#[]⟩, .int .i64 E]]) (by simp [results, Tryz.results30, asAddr, loadVar_R HZ.out, loadVar_A HZA.out]) rfl ⟨p, n, c, rfl, HZR.out, HZB.out⟩
set_option maxRecDepth 100000 in
set_option maxHeartbeats 8000000 in
theorem rupd_ok (p : Option Addr) (n c : Nat) (s : St) (o : Op) (w : World) (hrow : gc.RowA w p n c s.A) (ht : o.t.s.size ≤ maxLen) (hk : o.t.k = s.tx.k) (h0 : o.t.k ≠ 0) (hE : o.t.chk = 0) (h2 : o.t.k ≠ 2) : Calls Tryz.prog 30 #[.agg (rC p n c s), .agg #[.int .i64 o.kind, .int .i64 o.now, .int .i64 o.n, .string o.s, .string o.t.s, .int .i64 o.t.k, .bool o.t.up, .int .i64 o.t.o, .int .i64 o.t.a, .int .i64 o.t.b]] w (Brg { lookS s o.now with tx := o.t } ⟨0, ⟨#[]⟩, 0⟩ w) := by
  have HLK := Lib.hid (fun W => rlook_any p n c s o.now W)
  have e1 : (o.t.k == 0) = false := by simpa using h0
  have e2 : decide (o.t.k = 0) = false := by simpa using h0
  have HCK := Lib.hid (fun W => show Calls Tryz.prog 18 #[.agg #[.string o.t.s, .int .i64 o.t.k, .bool o.t.up, .int .i64 o.t.o, .int .i64 o.t.a, .int .i64 o.t.b]] W fun e w' => e = .returned (.int .i64 0) ∧ Below W.heap.size W w' from by rw [← hE]; exact gx.rcheck_max o.t.s ht o.t.k o.t.up o.t.o o.t.a o.t.b W)
  have e3 : (o.t.k == 2) = false := by simpa using h2
  have e4 : decide (o.t.k = 2) = false := by simpa using h2
  obtain ⟨W0, hW0, h4⟩ := four_alloc (s := s) o hrow
  have hW0 : (((w.alloc (.cells (rC p n c s) 38)).alloc (.cells #[.int .i64 o.kind, .int .i64 o.now, .int .i64 o.n, .string o.s, .string o.t.s, .int .i64 o.t.k, .bool o.t.up, .int .i64 o.t.o, .int .i64 o.t.a, .int .i64 o.t.b] 44)).alloc (.cells #[.string ⟨#[]⟩, .int .i64 0, .bool false, .int .i64 0, .int .i64 0, .int .i64 0, .int .u64 0, .int .i64 0, .int .i64 0, .int .i64 0, .int .i64 0, .string ⟨#[]⟩, .slice none 0 0, .int .i64 0, .int .i64 0, .int .i64 0, .int .i64 0, .int .i64 0, .int .i64 0, .bool false, .int .i64 0, .int .i64 0] 38)).alloc (.cells #[.int .i64 0, .string ⟨#[]⟩, .int .i64 0] 46) = W0 := hW0
  have H0 := Lib.hid h4
  have i0 := h4.q.is
  have k0 := h4.q.cells
  have hlt := h4.lt
  clear h4 hrow h0 hE ht h2
  have y1 : W0.cell? ⟨w.heap.size + 1, 1, none⟩ = some (.int .i64 o.now) := H0.out.oc 1
  have y4 : W0.cell? ⟨w.heap.size + 1, 4, none⟩ = some (.string o.t.s) := H0.out.oc 4
  have y5 : W0.cell? ⟨w.heap.size + 1, 5, none⟩ = some (.int .i64 o.t.k) := H0.out.oc 5
  have y6 : W0.cell? ⟨w.heap.size + 1, 6, none⟩ = some (.bool o.t.up) := H0.out.oc 6
  have y7 : W0.cell? ⟨w.heap.size + 1, 7, none⟩ = some (.int .i64 o.t.o) := H0.out.oc 7
  have y8 : W0.cell? ⟨w.heap.size + 1, 8, none⟩ = some (.int .i64 o.t.a) := H0.out.oc 8
  have y9 : W0.cell? ⟨w.heap.size + 1, 9, none⟩ = some (.int .i64 o.t.b) := H0.out.oc 9
  have x1 : W0.cell? ⟨w.heap.size, 1, none⟩ = some (.int .i64 s.tx.k) := H0.out.q.cell 1
  rw [← hk] at x1
  clear hk
  have HE3 := Lib.hid (And.intro e3 e4)
  clear e3 e4
  go_enter Tryz.func30, Tryz.ntmps30
  go_wp2_with fail
  clear hW0 i0 k0 hlt x1 y1 y4 y5 y6 y7 y8 y9 e1 e2
  refine (HCK.out _).mono ?_
  rintro e w5 ⟨rfl, hb5⟩
  have H5 := Lib.hid (H0.out.on hb5)
  clear hb5 H0 HCK
  have i0 := H5.out.q.is
  have k0 := H5.out.q.cells
  have y1 : w5.cell? ⟨w.heap.size + 1, 1, none⟩ = some (.int .i64 o.now) := H5.out.oc 1
  go_wp2_with fail
  refine (HLK.out _).mono ?_
  rintro e w1 ⟨rfl, hb1⟩
  have H1 := Lib.hid (H5.out.on hb1)
  have i1 := H1.out.q.is
  have H2 := Lib.hid (H1.out.row_set (lookS s o.now) rfl)
  clear hb1 H5 HLK y1 i0 k0
  go_upto_region 9 with fail
  generalize w1.setRow w.heap.size (rC p n c (lookS s o.now)) = w2 at *
  clear i1 H1
  have y4 : w2.cell? ⟨w.heap.size + 1, 4, none⟩ = some (.string o.t.s) := H2.out.oc 4
  have y5 : w2.cell? ⟨w.heap.size + 1, 5, none⟩ = some (.int .i64 o.t.k) := H2.out.oc 5
  have y6 : w2.cell? ⟨w.heap.size + 1, 6, none⟩ = some (.bool o.t.up) := H2.out.oc 6
  have y7 : w2.cell? ⟨w.heap.size + 1, 7, none⟩ = some (.int .i64 o.t.o) := H2.out.oc 7
  have y8 : w2.cell? ⟨w.heap.size + 1, 8, none⟩ = some (.int .i64 o.t.a) := H2.out.oc 8
  have y9 : w2.cell? ⟨w.heap.size + 1, 9, none⟩ = some (.int .i64 o.t.b) := H2.out.oc 9
  obtain ⟨x0, x1, x2, x3, x4, x5⟩ := tox_cells10 H2.out.q
  obtain ⟨f0, f1, f2, f3, f4, f5⟩ := tox_frz10 H2.out.q
  have H3 := Lib.hid (H2.out.putT o.t)
  go_upto_region 10 with fail
  generalize hW3 : putT w2 w.heap.size o.t = w3 at *
  unfold Go.Proofs.YtlbihcpglcdmmaaGreat.putT at hW3
  rw [hW3]
  clear hW3 x0 x1 x2 x3 x4 x5 f0 f1 f2 f3 f4 f5 y4 y5 y6 y7 y8 y9 H2
  have x1 : w3.cell? ⟨w.heap.size, 1, none⟩ = some (.int .i64 o.t.k) := H3.out.q.cell 1
  obtain ⟨e3, e4⟩ := HE3.out
  go_upto_region 13 with fail
  clear x1 e3 e4
  obtain ⟨⟨t0, t1, t2⟩, ⟨g0, g1, g2⟩, hz, hza, hzr, hzb⟩ := H3.out.fin (p' := p) (n' := n) (c' := c) (s' := { lookS s o.now with tx := o.t }) H3.out.row ⟨0, ⟨#[]⟩, 0⟩
  have HZ := Lib.hid hz
  have HZA := Lib.hid hza
  have HZR := Lib.hid hzr
  have HZB := Lib.hid hzb
  have i1z := H3.out.q.is
  have k1z := H3.out.q.cells
  have i2z := H3.out.r.is
  have hltz := H3.out.lt
  clear hz hza hzr hzb
  go_wp2_with fail
  generalize hWf : finW w3 (w.heap.size + 2) (w.heap.size + 3) (rC p n c { lookS s o.now with tx := o.t }) ⟨0, ⟨#[]⟩, 0⟩ = wz at *
  unfold finW at hWf
  dsimp only at hWf
  try rw [hWf]
  exact bodyPost_ret (v := .tuple #[.agg (rC p n c { lookS s o.now with tx := o.t }), .agg #[.int .i64 0, .string ⟨#[]⟩, .int .i64 0]]) (by simp [results, Tryz.results30, asAddr, loadVar_R HZ.out, loadVar_A HZA.out]) rfl ⟨p, n, c, rfl, HZR.out, HZB.out⟩
end Go.Proofs.YtlbihcpglcdmmaaGreat
namespace Go.Proofs.YtlbihcpglcdmmaaGreat
open Go.RowKit

attribute [local go_sem ↓] to_loadR to_storeR
attribute [local go_sem] run_loadR run_storeR rval
variable {w w' : World} {q n c : Nat} {p : Option Addr} {s s' : St}
set_option maxRecDepth 100000 in
set_option maxHeartbeats 8000000 in
theorem rupd_bw (p : Option Addr) (n c : Nat) (s : St) (o : Op) (w : World) (hrow : gc.RowA w p n c s.A) (ht : o.t.s.size ≤ maxLen) (hk : o.t.k = s.tx.k) (h0 : o.t.k ≠ 0) (hE : o.t.chk = 0) (h2 : o.t.k = 2) (hr : gb.rightB s.bk.r s.bk.u s.bk.l s.bk.t = true) (hrn : gb.rightB o.t.a o.t.b o.t.b (lookS s o.now).clock = true) {V T : Int} (hV : (if o.t.b < gb.fillL s.bk.r s.bk.u s.bk.l s.bk.t (lookS s o.now).clock then o.t.b else gb.fillL s.bk.r s.bk.u s.bk.l s.bk.t (lookS s o.now).clock) = V) (hT : gb.fillT s.bk.r s.bk.u s.bk.l s.bk.t (lookS s o.now).clock = T) : Calls Tryz.prog 30 #[.agg (rC p n c s), .agg #[.int .i64 o.kind, .int .i64 o.now, .int .i64 o.n, .string o.s, .string o.t.s, .int .i64 o.t.k, .bool o.t.up, .int .i64 o.t.o, .int .i64 o.t.a, .int .i64 o.t.b]] w (Brg { lookS s o.now with tx := o.t, bk := ⟨o.t.a, o.t.b, V, T⟩ } ⟨0, ⟨#[]⟩, 0⟩ w) := by
  have HLK := Lib.hid (fun W => rlook_any p n c s o.now W)
  have e1 : (o.t.k == 0) = false := by simpa using h0
  have e2 : decide (o.t.k = 0) = false := by simpa using h0
  have HCK := Lib.hid (fun W => show Calls Tryz.prog 18 #[.agg #[.string o.t.s, .int .i64 o.t.k, .bool o.t.up, .int .i64 o.t.o, .int .i64 o.t.a, .int .i64 o.t.b]] W fun e w' => e = .returned (.int .i64 0) ∧ Below W.heap.size W w' from by rw [← hE]; exact gx.rcheck_max o.t.s ht o.t.k o.t.up o.t.o o.t.a o.t.b W)
  have e3 : (o.t.k == 2) = true := by simpa using h2
  have e4 : decide (o.t.k = 2) = true := by simpa using h2
  have HCH := Lib.hid (fun W => show Calls Tryz.prog 56 #[.agg #[.int .i64 s.bk.r, .int .i64 s.bk.u, .int .i64 s.bk.l, .int .i64 s.bk.t], .int .i64 o.t.a, .int .i64 o.t.b, .int .i64 (lookS s o.now).clock] W fun e w' => e = .returned (.tuple #[.agg #[.int .i64 o.t.a, .int .i64 o.t.b, .int .i64 V, .int .i64 T], .int .i64 0]) ∧ Below W.heap.size W w' from by rw [← hV]; exact gb.rchange_b hr hrn rfl hT W)
  obtain ⟨W0, hW0, h4⟩ := four_alloc (s := s) o hrow
  have hW0 : (((w.alloc (.cells (rC p n c s) 38)).alloc (.cells #[.int .i64 o.kind, .int .i64 o.now, .int .i64 o.n, .string o.s, .string o.t.s, .int .i64 o.t.k, .bool o.t.up, .int .i64 o.t.o, .int .i64 o.t.a, .int .i64 o.t.b] 44)).alloc (.cells #[.string ⟨#[]⟩, .int .i64 0, .bool false, .int .i64 0, .int .i64 0, .int .i64 0, .int .u64 0, .int .i64 0, .int .i64 0, .int .i64 0, .int .i64 0, .string ⟨#[]⟩, .slice none 0 0, .int .i64 0, .int .i64 0, .int .i64 0, .int .i64 0, .int .i64 0, .int .i64 0, .bool false, .int .i64 0, .int .i64 0] 38)).alloc (.cells #[.int .i64 0, .string ⟨#[]⟩, .int .i64 0] 46) = W0 := hW0
  have H0 := Lib.hid h4
  have i0 := h4.q.is
  have k0 := h4.q.cells
  have hlt := h4.lt
  clear h4 hrow h0 hE ht h2 hr hrn hV hT
  have y1 : W0.cell? ⟨w.heap.size + 1, 1, none⟩ = some (.int .i64 o.now) := H0.out.oc 1
  have y4 : W0.cell? ⟨w.heap.size + 1, 4, none⟩ = some (.string o.t.s) := H0.out.oc 4
  have y5 : W0.cell? ⟨w.heap.size + 1, 5, none⟩ = some (.int .i64 o.t.k) := H0.out.oc 5
  have y6 : W0.cell? ⟨w.heap.size + 1, 6, none⟩ = some (.bool o.t.up) := H0.out.oc 6
  have y7 : W0.cell? ⟨w.heap.size + 1, 7, none⟩ = some (.int .i64 o.t.o) := H0.out.oc 7
  have y8 : W0.cell? ⟨w.heap.size + 1, 8, none⟩ = some (.int .i64 o.t.a) := H0.out.oc 8
  have y9 : W0.cell? ⟨w.heap.size + 1, 9, none⟩ = some (.int .i64 o.t.b) := H0.out.oc 9
  have x1 : W0.cell? ⟨w.heap.size, 1, none⟩ = some (.int .i64 s.tx.k) := H0.out.q.cell 1
  rw [← hk] at x1
  clear hk
  have HE3 := Lib.hid (And.intro e3 e4)
  clear e3 e4
  go_enter Tryz.func30, Tryz.ntmps30
  go_wp2_with fail
  clear hW0 i0 k0 hlt x1 y1 y4 y5 y6 y7 y8 y9 e1 e2
  refine (HCK.out _).mono ?_
  rintro e w5 ⟨rfl, hb5⟩
  have H5 := Lib.hid (H0.out.on hb5)
  clear hb5 H0 HCK
  have i0 := H5.out.q.is
  have k0 := H5.out.q.cells
  have y1 : w5.cell? ⟨w.heap.size + 1, 1, none⟩ = some (.int .i64 o.now) := H5.out.oc 1
  go_wp2_with fail
  refine (HLK.out _).mono ?_
  rintro e w1 ⟨rfl, hb1⟩
  have H1 := Lib.hid (H5.out.on hb1)
  have i1 := H1.out.q.is
  have H2 := Lib.hid (H1.out.row_set (lookS s o.now) rfl)
  clear hb1 H5 HLK y1 i0 k0
  go_upto_region 9 with fail
  generalize w1.setRow w.heap.size (rC p n c (lookS s o.now)) = w2 at *
  clear i1 H1
  have y4 : w2.cell? ⟨w.heap.size + 1, 4, none⟩ = some (.string o.t.s) := H2.out.oc 4
  have y5 : w2.cell? ⟨w.heap.size + 1, 5, none⟩ = some (.int .i64 o.t.k) := H2.out.oc 5
  have y6 : w2.cell? ⟨w.heap.size + 1, 6, none⟩ = some (.bool o.t.up) := H2.out.oc 6
  have y7 : w2.cell? ⟨w.heap.size + 1, 7, none⟩ = some (.int .i64 o.t.o) := H2.out.oc 7
  have y8 : w2.cell? ⟨w.heap.size + 1, 8, none⟩ = some (.int .i64 o.t.a) := H2.out.oc 8
  have y9 : w2.cell? ⟨w.heap.size + 1, 9, none⟩ = some (.int .i64 o.t.b) := H2.out.oc 9
  obtain ⟨x0, x1, x2, x3, x4, x5⟩ := tox_cells10 H2.out.q
  obtain ⟨f0, f1, f2, f3, f4, f5⟩ := tox_frz10 H2.out.q
  have H3 := Lib.hid (H2.out.putT o.t)
  go_upto_region 10 with fail
  generalize hW3 : putT w2 w.heap.size o.t = w3 at *
  unfold Go.Proofs.YtlbihcpglcdmmaaGreat.putT at hW3
  rw [hW3]
  clear hW3 x0 x1 x2 x3 x4 x5 f0 f1 f2 f3 f4 f5 y4 y5 y6 y7 y8 y9 H2
  have x1 : w3.cell? ⟨w.heap.size, 1, none⟩ = some (.int .i64 o.t.k) := H3.out.q.cell 1
  obtain ⟨e3, e4⟩ := HE3.out
  have x4 : w3.cell? ⟨w.heap.size, 4, none⟩ = some (.int .i64 o.t.a) := H3.out.q.cell 4
  have x5 : w3.cell? ⟨w.heap.size, 5, none⟩ = some (.int .i64 o.t.b) := H3.out.q.cell 5
  have x7 : w3.cell? ⟨w.heap.size, 7, none⟩ = some (.int .i64 s.bk.r) := H3.out.q.cell 7
  have x8 : w3.cell? ⟨w.heap.size, 8, none⟩ = some (.int .i64 s.bk.u) := H3.out.q.cell 8
  have x9 : w3.cell? ⟨w.heap.size, 9, none⟩ = some (.int .i64 s.bk.l) := H3.out.q.cell 9
  have x10 : w3.cell? ⟨w.heap.size, 10, none⟩ = some (.int .i64 s.bk.t) := H3.out.q.cell 10
  have x16 : w3.cell? ⟨w.heap.size, 16, none⟩ = some (.int .i64 (lookS s o.now).clock) := H3.out.q.cell 16
  go_wp2_with fail
  clear x1 x4 x5 x7 x8 x9 x10 x16 e3 e4
  refine (HCH.out _).mono ?_
  rintro e w6 ⟨rfl, hb6⟩
  have hal : Below w6.heap.size w6 (w6.alloc (.cells #[.int .i64 0, .int .i64 0, .int .i64 0, .int .i64 0] 33)) := (Below.refl _ _).alloc (Nat.le_refl _) _
  have hbl := heap_alloc_new w6 (.cells #[.int .i64 0, .int .i64 0, .int .i64 0, .int .i64 0] 33)
  obtain ⟨W7, hW7⟩ : ∃ W7, w6.alloc (.cells #[.int .i64 0, .int .i64 0, .int .i64 0, .int .i64 0] 33) = W7 := ⟨_, rfl⟩
  rw [hW7] at hal hbl
  have hst := gb.set4_below (w := W7) hal (Nat.le_refl _) (.int .i64 o.t.a) (.int .i64 o.t.b) (.int .i64 V) (.int .i64 T)
  have hs4 := gb.set4_heap hbl (.int .i64 o.t.a) (.int .i64 o.t.b) (.int .i64 V) (.int .i64 T)
  have z0 : W7.cell? ⟨w6.heap.size, 0, none⟩ = some (.int .i64 0) := cell_of_row _ _ 0 _ _ _ hbl
  have z1 : W7.cell? ⟨w6.heap.size, 1, none⟩ = some (.int .i64 0) := cell_of_row _ _ 1 _ _ _ hbl
  have z2 : W7.cell? ⟨w6.heap.size, 2, none⟩ = some (.int .i64 0) := cell_of_row _ _ 2 _ _ _ hbl
  have z3 : W7.cell? ⟨w6.heap.size, 3, none⟩ = some (.int .i64 0) := cell_of_row _ _ 3 _ _ _ hbl
  have g0 : W7.frozen? ⟨w6.heap.size, 0, none⟩ = false := gb.frozen_at hbl
  have g1 : W7.frozen? ⟨w6.heap.size, 1, none⟩ = false := gb.frozen_at hbl
  have g2 : W7.frozen? ⟨w6.heap.size, 2, none⟩ = false := gb.frozen_at hbl
  have g3 : W7.frozen? ⟨w6.heap.size, 3, none⟩ = false := gb.frozen_at hbl
  have hlt2 := gb.blk_lt hbl
  have H8 := Lib.hid ((H3.out.on hb6).on hst)
  have HC8 := Lib.hid hs4
  clear hb6 hal hbl hst hs4 HCH H3
  go_upto_region 12 with fail
  generalize hW8 : gb.set4 W7 w6.heap.size (.int .i64 o.t.a) (.int .i64 o.t.b) (.int .i64 V) (.int .i64 T) = w8 at *
  unfold gb.set4 at hW8
  rw [hW8]
  clear hW8 z0 z1 z2 z3 g0 g1 g2 g3 hlt2 hW7
  generalize w6.heap.size = gg at *
  have y0 : w8.cell? ⟨gg, 0, none⟩ = some (.int .i64 o.t.a) := cell_of_row _ _ 0 _ _ _ HC8.out
  have y1 : w8.cell? ⟨gg, 1, none⟩ = some (.int .i64 o.t.b) := cell_of_row _ _ 1 _ _ _ HC8.out
  have y2 : w8.cell? ⟨gg, 2, none⟩ = some (.int .i64 V) := cell_of_row _ _ 2 _ _ _ HC8.out
  have y3 : w8.cell? ⟨gg, 3, none⟩ = some (.int .i64 T) := cell_of_row _ _ 3 _ _ _ HC8.out
  have u7 : w8.cell? ⟨w.heap.size, 7, none⟩ = some (.int .i64 s.bk.r) := H8.out.q.cell 7
  have u8 : w8.cell? ⟨w.heap.size, 8, none⟩ = some (.int .i64 s.bk.u) := H8.out.q.cell 8
  have u9 : w8.cell? ⟨w.heap.size, 9, none⟩ = some (.int .i64 s.bk.l) := H8.out.q.cell 9
  have u10 : w8.cell? ⟨w.heap.size, 10, none⟩ = some (.int .i64 s.bk.t) := H8.out.q.cell 10
  have v7 := H8.out.q.frz 7
  have v8 := H8.out.q.frz 8
  have v9 := H8.out.q.frz 9
  have v10 := H8.out.q.frz 10
  have H9 := Lib.hid (H8.out.putB ⟨o.t.a, o.t.b, V, T⟩)
  go_upto_region 13 with fail
  generalize hW9 : putB w8 w.heap.size ⟨o.t.a, o.t.b, V, T⟩ = w9 at *
  unfold Go.Proofs.YtlbihcpglcdmmaaGreat.putB at hW9
  dsimp only at hW9
  rw [hW9]
  clear hW9 y0 y1 y2 y3 u7 u8 u9 u10 v7 v8 v9 v10 H8 HC8
  obtain ⟨⟨t0, t1, t2⟩, ⟨g0, g1, g2⟩, hz, hza, hzr, hzb⟩ := H9.out.fin (p' := p) (n' := n) (c' := c) (s' := { lookS s o.now with tx := o.t, bk := ⟨o.t.a, o.t.b, V, T⟩ }) H9.out.row ⟨0, ⟨#[]⟩, 0⟩
  have HZ := Lib.hid hz
  have HZA := Lib.hid hza
  have HZR := Lib.hid hzr
  have HZB := Lib.hid hzb
  have i1z := H9.out.q.is
  have k1z := H9.out.q.cells
  have i2z := H9.out.r.is
  have hltz := H9.out.lt
  clear hz hza hzr hzb
  go_wp2_with fail
  generalize hWf : finW w9 (w.heap.size + 2) (w.heap.size + 3) (rC p n c { lookS s o.now with tx := o.t, bk := ⟨o.t.a, o.t.b, V, T⟩ }) ⟨0, ⟨#[]⟩, 0⟩ = wz at *
  unfold finW at hWf
  dsimp only at hWf
  try rw [hWf]
  exact bodyPost_ret (v := .tuple #[.agg (rC p n c { lookS s o.now with tx := o.t, bk := ⟨o.t.a, o.t.b, V, T⟩ }), .agg #[.int .i64 0, .string ⟨#[]⟩, .int .i64 0]]) (by simp [results, Tryz.results30, asAddr, loadVar_R HZ.out, loadVar_A HZA.out]) rfl ⟨p, n, c, rfl, HZR.out, HZB.out⟩
theorem rupd_any (p : Option Addr) (n c : Nat) (s : St) (o : Op) (w : World) (hrow : gc.RowA w p n c s.A) {M : Nat} (ho : Ok s M) (ht : o.t.s.size ≤ maxLen) : Calls Tryz.prog 30 #[.agg (rC p n c s), .agg #[.int .i64 o.kind, .int .i64 o.now, .int .i64 o.n, .string o.s, .string o.t.s, .int .i64 o.t.k, .bool o.t.up, .int .i64 o.t.o, .int .i64 o.t.a, .int .i64 o.t.b]] w (Brg (updS s o.t o.now).1 ⟨0, ⟨#[]⟩, (updS s o.t o.now).2⟩ w) := by
  unfold updS
  by_cases h1 : o.t.k = s.tx.k
  · rw [if_neg (by omega)]
    by_cases h2 : o.t.k = 0
    · rw [if_pos h2]
      exact rupd_0 p n c s o w hrow h1 h2
    · rw [if_neg h2]
      by_cases h3 : o.t.chk = 0
      · rw [if_neg (by omega)]
        dsimp only
        by_cases h4 : o.t.k = 2
        · rw [if_pos h4]
          have hb := chk_of h3
          have hck := tick_rg (now := o.now) ho.clock
          have hok : Ok { s with tx := o.t, bk := ⟨1, 1, 0, 0⟩ } M := ⟨Or.inr h3, ht, ho.clock, ho.passed, ho.room, fun _ => (by decide : gb.rightB 1 1 0 0 = true), ho.top⟩
          have hab := hok.ab
          have hbb := hab.2.2.2.1 h4
          exact rupd_bw p n c s o w hrow ht h1 h2 h3 h4 (ho.bk (by omega)) ((gb.rightB_iff _ _ _ _).2 ⟨hab.1, hab.2.1, hab.2.1, hck, by have := hbb.1; show o.t.b ≠ 0; intro e; rw [e] at hbb; omega, Int.le_refl _⟩) rfl rfl
        · rw [if_neg h4]
          exact rupd_ok p n c s o w hrow ht h1 h2 h3 h4
      · rw [if_pos h3]
        exact rupd_e p n c s o w hrow ht h1 h2 rfl h3
  · rw [if_pos h1]
    exact rupd_91 p n c s o w hrow h1
end Go.Proofs.YtlbihcpglcdmmaaGreat

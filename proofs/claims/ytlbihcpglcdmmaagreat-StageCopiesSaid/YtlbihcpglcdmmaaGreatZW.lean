/-
  Contracts: Do of the document. Conditions: as each states.
  Contracts: Do of the document. Conditions: as each states.
  Contracts: Do of the document. Conditions: as each states.
  Contracts: Close of the document. Conditions: as each states.
  Contracts: Take of the document. Conditions: as each states.
-/
import Derived.Test.YtlbihcpglcdmmaaGreatZV
namespace Go.Proofs.YtlbihcpglcdmmaaGreat
open Go.RowKit

attribute [local go_sem ↓] to_loadR to_storeR
attribute [local go_sem] run_loadR run_storeR rval
variable {w w' : World} {q n c : Nat} {p : Option Addr} {s s' : St}
set_option maxRecDepth 100000 in
set_option maxHeartbeats 8000000 in
theorem rdo_0 (p : Option Addr) (n c : Nat) (s : St) (o : Op) (w : World) (hrow : gc.RowA w p n c s.A) {S : St} {X E : Int} {T : ByteArray} (hk : o.kind = 0) (hb : ∀ W, gc.RowA W p n c s.A → Calls Tryz.prog 25 #[.agg (rC p n c s), .agg #[.int .i64 o.kind, .int .i64 o.now, .int .i64 o.n, .string o.s, .string o.t.s, .int .i64 o.t.k, .bool o.t.up, .int .i64 o.t.o, .int .i64 o.t.a, .int .i64 o.t.b]] W (Brg S ⟨X, T, E⟩ W)) : Calls Tryz.prog 8 #[.agg (rC p n c s), .agg #[.int .i64 o.kind, .int .i64 o.now, .int .i64 o.n, .string o.s, .string o.t.s, .int .i64 o.t.k, .bool o.t.up, .int .i64 o.t.o, .int .i64 o.t.a, .int .i64 o.t.b]] w (Brg S ⟨X, T, E⟩ w) := by
  have HBR := Lib.hid hb
  obtain ⟨W0, hW0, h4⟩ := four_alloc (s := s) o hrow
  have hW0 : (((w.alloc (.cells (rC p n c s) 38)).alloc (.cells #[.int .i64 o.kind, .int .i64 o.now, .int .i64 o.n, .string o.s, .string o.t.s, .int .i64 o.t.k, .bool o.t.up, .int .i64 o.t.o, .int .i64 o.t.a, .int .i64 o.t.b] 44)).alloc (.cells #[.string ⟨#[]⟩, .int .i64 0, .bool false, .int .i64 0, .int .i64 0, .int .i64 0, .int .u64 0, .int .i64 0, .int .i64 0, .int .i64 0, .int .i64 0, .string ⟨#[]⟩, .slice none 0 0, .int .i64 0, .int .i64 0, .int .i64 0, .int .i64 0, .int .i64 0, .int .i64 0, .bool false, .int .i64 0, .int .i64 0] 38)).alloc (.cells #[.int .i64 0, .string ⟨#[]⟩, .int .i64 0] 46) = W0 := hW0
  have H0 := Lib.hid h4
  have i0 := h4.q.is
  have k0 := h4.q.cells
  have hlt := h4.lt
  clear h4 hrow hb
  have y0 : W0.cell? ⟨w.heap.size + 1, 0, none⟩ = some (.int .i64 o.kind) := H0.out.oc 0
  have y1 : W0.cell? ⟨w.heap.size + 1, 1, none⟩ = some (.int .i64 o.now) := H0.out.oc 1
  have y2 : W0.cell? ⟨w.heap.size + 1, 2, none⟩ = some (.int .i64 o.n) := H0.out.oc 2
  have y3 : W0.cell? ⟨w.heap.size + 1, 3, none⟩ = some (.string o.s) := H0.out.oc 3
  have y4 : W0.cell? ⟨w.heap.size + 1, 4, none⟩ = some (.string o.t.s) := H0.out.oc 4
  have y5 : W0.cell? ⟨w.heap.size + 1, 5, none⟩ = some (.int .i64 o.t.k) := H0.out.oc 5
  have y6 : W0.cell? ⟨w.heap.size + 1, 6, none⟩ = some (.bool o.t.up) := H0.out.oc 6
  have y7 : W0.cell? ⟨w.heap.size + 1, 7, none⟩ = some (.int .i64 o.t.o) := H0.out.oc 7
  have y8 : W0.cell? ⟨w.heap.size + 1, 8, none⟩ = some (.int .i64 o.t.a) := H0.out.oc 8
  have y9 : W0.cell? ⟨w.heap.size + 1, 9, none⟩ = some (.int .i64 o.t.b) := H0.out.oc 9
  have c0 : (o.kind == 0) = true := by simp [hk]
  have b0 : decide (o.kind = 0) = true := by simp [hk]
  clear hk
  go_enter Tryz.func8, Tryz.ntmps8
  go_wp2_with fail
  clear hW0
  refine (HBR.out _ H0.out.row).mono ?_
  rintro e w1 ⟨p1, n1, c1, rfl, hrow1, hb1⟩
  have H1 := Lib.hid (H0.out.on hb1)
  have HRW1 := Lib.hid hrow1
  clear hb1 hrow1 H0 HBR i0 k0 hlt y0 y1 y2 y3 y4 y5 y6 y7 y8 y9
  obtain ⟨⟨t0, t1, t2⟩, ⟨g0, g1, g2⟩, hz, hza, hzr, hzb⟩ := H1.out.fin (p' := p1) (n' := n1) (c' := c1) (s' := S) HRW1.out ⟨X, T, E⟩
  have HZ := Lib.hid hz
  have HZA := Lib.hid hza
  have HZR := Lib.hid hzr
  have HZB := Lib.hid hzb
  have i1z := H1.out.q.is
  have k1z := H1.out.q.cells
  have i2z := H1.out.r.is
  have hltz := H1.out.lt
  clear hz hza hzr hzb
  go_wp2_with fail
  generalize hWf : finW w1 (w.heap.size + 2) (w.heap.size + 3) (rC p1 n1 c1 S) ⟨X, T, E⟩ = wz at *
  unfold finW at hWf
  dsimp only at hWf
  try rw [hWf]
  exact bodyPost_ret (v := .tuple #[.agg (rC p1 n1 c1 S), .agg #[.int .i64 X, .string T, .int .i64 E]]) (by simp [results, Tryz.results8, asAddr, loadVar_R HZ.out, loadVar_A HZA.out]) rfl ⟨p1, n1, c1, rfl, HZR.out, HZB.out⟩
set_option maxRecDepth 100000 in
set_option maxHeartbeats 8000000 in
theorem rdo_1 (p : Option Addr) (n c : Nat) (s : St) (o : Op) (w : World) (hrow : gc.RowA w p n c s.A) {S : St} {X E : Int} {T : ByteArray} (hk : o.kind = 1) (hb : ∀ W, gc.RowA W p n c s.A → Calls Tryz.prog 25 #[.agg (rC p n c s), .agg #[.int .i64 o.kind, .int .i64 o.now, .int .i64 o.n, .string o.s, .string o.t.s, .int .i64 o.t.k, .bool o.t.up, .int .i64 o.t.o, .int .i64 o.t.a, .int .i64 o.t.b]] W (Brg S ⟨X, T, E⟩ W)) : Calls Tryz.prog 8 #[.agg (rC p n c s), .agg #[.int .i64 o.kind, .int .i64 o.now, .int .i64 o.n, .string o.s, .string o.t.s, .int .i64 o.t.k, .bool o.t.up, .int .i64 o.t.o, .int .i64 o.t.a, .int .i64 o.t.b]] w (Brg S ⟨X, T, E⟩ w) := by
  have HBR := Lib.hid hb
  obtain ⟨W0, hW0, h4⟩ := four_alloc (s := s) o hrow
  have hW0 : (((w.alloc (.cells (rC p n c s) 38)).alloc (.cells #[.int .i64 o.kind, .int .i64 o.now, .int .i64 o.n, .string o.s, .string o.t.s, .int .i64 o.t.k, .bool o.t.up, .int .i64 o.t.o, .int .i64 o.t.a, .int .i64 o.t.b] 44)).alloc (.cells #[.string ⟨#[]⟩, .int .i64 0, .bool false, .int .i64 0, .int .i64 0, .int .i64 0, .int .u64 0, .int .i64 0, .int .i64 0, .int .i64 0, .int .i64 0, .string ⟨#[]⟩, .slice none 0 0, .int .i64 0, .int .i64 0, .int .i64 0, .int .i64 0, .int .i64 0, .int .i64 0, .bool false, .int .i64 0, .int .i64 0] 38)).alloc (.cells #[.int .i64 0, .string ⟨#[]⟩, .int .i64 0] 46) = W0 := hW0
  have H0 := Lib.hid h4
  have i0 := h4.q.is
  have k0 := h4.q.cells
  have hlt := h4.lt
  clear h4 hrow hb
  have y0 : W0.cell? ⟨w.heap.size + 1, 0, none⟩ = some (.int .i64 o.kind) := H0.out.oc 0
  have y1 : W0.cell? ⟨w.heap.size + 1, 1, none⟩ = some (.int .i64 o.now) := H0.out.oc 1
  have y2 : W0.cell? ⟨w.heap.size + 1, 2, none⟩ = some (.int .i64 o.n) := H0.out.oc 2
  have y3 : W0.cell? ⟨w.heap.size + 1, 3, none⟩ = some (.string o.s) := H0.out.oc 3
  have y4 : W0.cell? ⟨w.heap.size + 1, 4, none⟩ = some (.string o.t.s) := H0.out.oc 4
  have y5 : W0.cell? ⟨w.heap.size + 1, 5, none⟩ = some (.int .i64 o.t.k) := H0.out.oc 5
  have y6 : W0.cell? ⟨w.heap.size + 1, 6, none⟩ = some (.bool o.t.up) := H0.out.oc 6
  have y7 : W0.cell? ⟨w.heap.size + 1, 7, none⟩ = some (.int .i64 o.t.o) := H0.out.oc 7
  have y8 : W0.cell? ⟨w.heap.size + 1, 8, none⟩ = some (.int .i64 o.t.a) := H0.out.oc 8
  have y9 : W0.cell? ⟨w.heap.size + 1, 9, none⟩ = some (.int .i64 o.t.b) := H0.out.oc 9
  have c0 : (o.kind == 0) = false := by simp [hk]
  have b0 : decide (o.kind = 0) = false := by simp [hk]
  have c1 : (o.kind == 1) = true := by simp [hk]
  have b1 : decide (o.kind = 1) = true := by simp [hk]
  clear hk
  go_enter Tryz.func8, Tryz.ntmps8
  go_wp2_with fail
  clear hW0
  refine (HBR.out _ H0.out.row).mono ?_
  rintro e w1 ⟨p1, n1, c1, rfl, hrow1, hb1⟩
  have H1 := Lib.hid (H0.out.on hb1)
  have HRW1 := Lib.hid hrow1
  clear hb1 hrow1 H0 HBR i0 k0 hlt y0 y1 y2 y3 y4 y5 y6 y7 y8 y9
  obtain ⟨⟨t0, t1, t2⟩, ⟨g0, g1, g2⟩, hz, hza, hzr, hzb⟩ := H1.out.fin (p' := p1) (n' := n1) (c' := c1) (s' := S) HRW1.out ⟨X, T, E⟩
  have HZ := Lib.hid hz
  have HZA := Lib.hid hza
  have HZR := Lib.hid hzr
  have HZB := Lib.hid hzb
  have i1z := H1.out.q.is
  have k1z := H1.out.q.cells
  have i2z := H1.out.r.is
  have hltz := H1.out.lt
  clear hz hza hzr hzb
  go_wp2_with fail
  generalize hWf : finW w1 (w.heap.size + 2) (w.heap.size + 3) (rC p1 n1 c1 S) ⟨X, T, E⟩ = wz at *
  unfold finW at hWf
  dsimp only at hWf
  try rw [hWf]
  exact bodyPost_ret (v := .tuple #[.agg (rC p1 n1 c1 S), .agg #[.int .i64 X, .string T, .int .i64 E]]) (by simp [results, Tryz.results8, asAddr, loadVar_R HZ.out, loadVar_A HZA.out]) rfl ⟨p1, n1, c1, rfl, HZR.out, HZB.out⟩
set_option maxRecDepth 100000 in
set_option maxHeartbeats 8000000 in
theorem rdo_5 (p : Option Addr) (n c : Nat) (s : St) (o : Op) (w : World) (hrow : gc.RowA w p n c s.A) {S : St} {X E : Int} {T : ByteArray} (hk : o.kind = 5) (hb : ∀ W, gc.RowA W p n c s.A → Calls Tryz.prog 30 #[.agg (rC p n c s), .agg #[.int .i64 o.kind, .int .i64 o.now, .int .i64 o.n, .string o.s, .string o.t.s, .int .i64 o.t.k, .bool o.t.up, .int .i64 o.t.o, .int .i64 o.t.a, .int .i64 o.t.b]] W (Brg S ⟨X, T, E⟩ W)) : Calls Tryz.prog 8 #[.agg (rC p n c s), .agg #[.int .i64 o.kind, .int .i64 o.now, .int .i64 o.n, .string o.s, .string o.t.s, .int .i64 o.t.k, .bool o.t.up, .int .i64 o.t.o, .int .i64 o.t.a, .int .i64 o.t.b]] w (Brg S ⟨X, T, E⟩ w) := by
  have HBR := Lib.hid hb
  obtain ⟨W0, hW0, h4⟩ := four_alloc (s := s) o hrow
  have hW0 : (((w.alloc (.cells (rC p n c s) 38)).alloc (.cells #[.int .i64 o.kind, .int .i64 o.now, .int .i64 o.n, .string o.s, .string o.t.s, .int .i64 o.t.k, .bool o.t.up, .int .i64 o.t.o, .int .i64 o.t.a, .int .i64 o.t.b] 44)).alloc (.cells #[.string ⟨#[]⟩, .int .i64 0, .bool false, .int .i64 0, .int .i64 0, .int .i64 0, .int .u64 0, .int .i64 0, .int .i64 0, .int .i64 0, .int .i64 0, .string ⟨#[]⟩, .slice none 0 0, .int .i64 0, .int .i64 0, .int .i64 0, .int .i64 0, .int .i64 0, .int .i64 0, .bool false, .int .i64 0, .int .i64 0] 38)).alloc (.cells #[.int .i64 0, .string ⟨#[]⟩, .int .i64 0] 46) = W0 := hW0
  have H0 := Lib.hid h4
  have i0 := h4.q.is
  have k0 := h4.q.cells
  have hlt := h4.lt
  clear h4 hrow hb
  have y0 : W0.cell? ⟨w.heap.size + 1, 0, none⟩ = some (.int .i64 o.kind) := H0.out.oc 0
  have y1 : W0.cell? ⟨w.heap.size + 1, 1, none⟩ = some (.int .i64 o.now) := H0.out.oc 1
  have y2 : W0.cell? ⟨w.heap.size + 1, 2, none⟩ = some (.int .i64 o.n) := H0.out.oc 2
  have y3 : W0.cell? ⟨w.heap.size + 1, 3, none⟩ = some (.string o.s) := H0.out.oc 3
  have y4 : W0.cell? ⟨w.heap.size + 1, 4, none⟩ = some (.string o.t.s) := H0.out.oc 4
  have y5 : W0.cell? ⟨w.heap.size + 1, 5, none⟩ = some (.int .i64 o.t.k) := H0.out.oc 5
  have y6 : W0.cell? ⟨w.heap.size + 1, 6, none⟩ = some (.bool o.t.up) := H0.out.oc 6
  have y7 : W0.cell? ⟨w.heap.size + 1, 7, none⟩ = some (.int .i64 o.t.o) := H0.out.oc 7
  have y8 : W0.cell? ⟨w.heap.size + 1, 8, none⟩ = some (.int .i64 o.t.a) := H0.out.oc 8
  have y9 : W0.cell? ⟨w.heap.size + 1, 9, none⟩ = some (.int .i64 o.t.b) := H0.out.oc 9
  have c0 : (o.kind == 0) = false := by simp [hk]
  have b0 : decide (o.kind = 0) = false := by simp [hk]
  have c1 : (o.kind == 1) = false := by simp [hk]
  have b1 : decide (o.kind = 1) = false := by simp [hk]
  have c2 : (o.kind == 2) = false := by simp [hk]
  have b2 : decide (o.kind = 2) = false := by simp [hk]
  have c3 : (o.kind == 3) = false := by simp [hk]
  have b3 : decide (o.kind = 3) = false := by simp [hk]
  have c4 : (o.kind == 4) = false := by simp [hk]
  have b4 : decide (o.kind = 4) = false := by simp [hk]
  have c5 : (o.kind == 5) = true := by simp [hk]
  have b5 : decide (o.kind = 5) = true := by simp [hk]
  clear hk
  go_enter Tryz.func8, Tryz.ntmps8
  go_wp2_with fail
  clear hW0
  refine (HBR.out _ H0.out.row).mono ?_
  rintro e w1 ⟨p1, n1, c1, rfl, hrow1, hb1⟩
  have H1 := Lib.hid (H0.out.on hb1)
  have HRW1 := Lib.hid hrow1
  clear hb1 hrow1 H0 HBR i0 k0 hlt y0 y1 y2 y3 y4 y5 y6 y7 y8 y9
  obtain ⟨⟨t0, t1, t2⟩, ⟨g0, g1, g2⟩, hz, hza, hzr, hzb⟩ := H1.out.fin (p' := p1) (n' := n1) (c' := c1) (s' := S) HRW1.out ⟨X, T, E⟩
  have HZ := Lib.hid hz
  have HZA := Lib.hid hza
  have HZR := Lib.hid hzr
  have HZB := Lib.hid hzb
  have i1z := H1.out.q.is
  have k1z := H1.out.q.cells
  have i2z := H1.out.r.is
  have hltz := H1.out.lt
  clear hz hza hzr hzb
  go_wp2_with fail
  generalize hWf : finW w1 (w.heap.size + 2) (w.heap.size + 3) (rC p1 n1 c1 S) ⟨X, T, E⟩ = wz at *
  unfold finW at hWf
  dsimp only at hWf
  try rw [hWf]
  exact bodyPost_ret (v := .tuple #[.agg (rC p1 n1 c1 S), .agg #[.int .i64 X, .string T, .int .i64 E]]) (by simp [results, Tryz.results8, asAddr, loadVar_R HZ.out, loadVar_A HZA.out]) rfl ⟨p1, n1, c1, rfl, HZR.out, HZB.out⟩
end Go.Proofs.YtlbihcpglcdmmaaGreat
namespace Go.Proofs.YtlbihcpglcdmmaaGreat
open Go.RowKit

attribute [local go_sem ↓] to_loadR to_storeR
attribute [local go_sem] run_loadR run_storeR rval
variable {w w' : World} {q n c : Nat} {p : Option Addr} {s s' : St}
set_option maxRecDepth 100000 in
set_option maxHeartbeats 8000000 in
theorem rdo_o (p : Option Addr) (n c : Nat) (s : St) (o : Op) (w : World) (hrow : gc.RowA w p n c s.A) (hk : o.kind < 0 ∨ 6 < o.kind) : Calls Tryz.prog 8 #[.agg (rC p n c s), .agg #[.int .i64 o.kind, .int .i64 o.now, .int .i64 o.n, .string o.s, .string o.t.s, .int .i64 o.t.k, .bool o.t.up, .int .i64 o.t.o, .int .i64 o.t.a, .int .i64 o.t.b]] w (Brg s ⟨0, ⟨#[]⟩, 0⟩ w) := by
  have c0 : (o.kind == 0) = false := by simp; omega
  have b0 : decide (o.kind = 0) = false := by simp; omega
  have c1 : (o.kind == 1) = false := by simp; omega
  have b1 : decide (o.kind = 1) = false := by simp; omega
  have c2 : (o.kind == 2) = false := by simp; omega
  have b2 : decide (o.kind = 2) = false := by simp; omega
  have c3 : (o.kind == 3) = false := by simp; omega
  have b3 : decide (o.kind = 3) = false := by simp; omega
  have c4 : (o.kind == 4) = false := by simp; omega
  have b4 : decide (o.kind = 4) = false := by simp; omega
  have c5 : (o.kind == 5) = false := by simp; omega
  have b5 : decide (o.kind = 5) = false := by simp; omega
  have c6 : (o.kind == 6) = false := by simp; omega
  have b6 : decide (o.kind = 6) = false := by simp; omega
  obtain ⟨W0, hW0, h4⟩ := four_alloc (s := s) o hrow
  have hW0 : (((w.alloc (.cells (rC p n c s) 38)).alloc (.cells #[.int .i64 o.kind, .int .i64 o.now, .int .i64 o.n, .string o.s, .string o.t.s, .int .i64 o.t.k, .bool o.t.up, .int .i64 o.t.o, .int .i64 o.t.a, .int .i64 o.t.b] 44)).alloc (.cells #[.string ⟨#[]⟩, .int .i64 0, .bool false, .int .i64 0, .int .i64 0, .int .i64 0, .int .u64 0, .int .i64 0, .int .i64 0, .int .i64 0, .int .i64 0, .string ⟨#[]⟩, .slice none 0 0, .int .i64 0, .int .i64 0, .int .i64 0, .int .i64 0, .int .i64 0, .int .i64 0, .bool false, .int .i64 0, .int .i64 0] 38)).alloc (.cells #[.int .i64 0, .string ⟨#[]⟩, .int .i64 0] 46) = W0 := hW0
  have H0 := Lib.hid h4
  have i0 := h4.q.is
  have k0 := h4.q.cells
  have hlt := h4.lt
  clear h4 hrow hk
  have y0 : W0.cell? ⟨w.heap.size + 1, 0, none⟩ = some (.int .i64 o.kind) := H0.out.oc 0
  go_enter Tryz.func8, Tryz.ntmps8
  go_upto_region 33 with fail
  clear hW0 i0 k0 hlt y0 c0 c1 c2 c3 c4 c5 c6 b0 b1 b2 b3 b4 b5 b6
  obtain ⟨⟨t0, t1, t2⟩, ⟨g0, g1, g2⟩, hz, hza, hzr, hzb⟩ := H0.out.fin (p' := p) (n' := n) (c' := c) (s' := s) H0.out.row ⟨0, ⟨#[]⟩, 0⟩
  have HZ := Lib.hid hz
  have HZA := Lib.hid hza
  have HZR := Lib.hid hzr
  have HZB := Lib.hid hzb
  have i1z := H0.out.q.is
  have k1z := H0.out.q.cells
  have i2z := H0.out.r.is
  have hltz := H0.out.lt
  clear hz hza hzr hzb
  go_wp2_with fail
  generalize hWf : finW W0 (w.heap.size + 2) (w.heap.size + 3) (rC p n c s) ⟨0, ⟨#[]⟩, 0⟩ = wz at *
  unfold finW at hWf
  dsimp only at hWf
  try rw [hWf]
  exact bodyPost_ret (v := .tuple #[.agg (rC p n c s), .agg #[.int .i64 0, .string ⟨#[]⟩, .int .i64 0]]) (by simp [results, Tryz.results8, asAddr, loadVar_R HZ.out, loadVar_A HZA.out]) rfl ⟨p, n, c, rfl, HZR.out, HZB.out⟩
theorem Four.setC {w W : World} {o : Op} (h : Four w W o p n c s) {i : Nat} {v : Value} {s' : St} (hc : (rC p n c s).setIfInBounds i v = rC p n c s') (hA : s'.A = s.A) : Four w (W.setCell ⟨w.heap.size, i, none⟩ v) o p n c s' := by
  refine ⟨h.q.set hc, (Below.heap_setCell W _ _ _ (show w.heap.size + 1 ≠ w.heap.size by omega)).trans h.o, h.r.far _ (by omega), (Below.heap_setCell W _ _ _ (show w.heap.size + 3 ≠ w.heap.size by omega)).trans h.a, h.b.setCell (p := ⟨w.heap.size, i, none⟩) (Nat.le_refl _) v, ?_⟩
  rw [hA]
  exact rowA_setC h.row h.q i v
theorem Four.putC {w W : World} {o : Op} (h : Four w W o p n c s) (S : ByteArray) (A : List Int) (p' : Option Addr) (n' c' : Nat) (l : Int) (hr : gc.RowA W p' n' c' A) : Four w (putC W w.heap.size S p' n' c' l) o p' n' c' { s with S := S, A := A, last := l } :=
  ⟨h.q.putC S A p' n' c' l, (putC_far (show w.heap.size + 1 ≠ w.heap.size by omega) _ _ _ _ _).trans h.o, (putC_far (show w.heap.size + 2 ≠ w.heap.size by omega) _ _ _ _ _).trans h.r, (putC_far (show w.heap.size + 3 ≠ w.heap.size by omega) _ _ _ _ _).trans h.a, putC_below h.b (Nat.le_refl _) _ _ _ _ _, rowA_typed hr fun _ _ _ hb => putC_far (h.q.not_int hb) _ _ _ _ _⟩
set_option maxRecDepth 100000 in
set_option maxHeartbeats 8000000 in
theorem rdo_6 (p : Option Addr) (n c : Nat) (s : St) (o : Op) (w : World) (hrow : gc.RowA w p n c s.A) (hk : o.kind = 6) : Calls Tryz.prog 8 #[.agg (rC p n c s), .agg #[.int .i64 o.kind, .int .i64 o.now, .int .i64 o.n, .string o.s, .string o.t.s, .int .i64 o.t.k, .bool o.t.up, .int .i64 o.t.o, .int .i64 o.t.a, .int .i64 o.t.b]] w (Brg { s with S := ⟨#[]⟩, A := [] } ⟨0, s.S, 0⟩ w) := by
  have c0 : (o.kind == 0) = false := by simp [hk]
  have b0 : decide (o.kind = 0) = false := by simp [hk]
  have c1 : (o.kind == 1) = false := by simp [hk]
  have b1 : decide (o.kind = 1) = false := by simp [hk]
  have c2 : (o.kind == 2) = false := by simp [hk]
  have b2 : decide (o.kind = 2) = false := by simp [hk]
  have c3 : (o.kind == 3) = false := by simp [hk]
  have b3 : decide (o.kind = 3) = false := by simp [hk]
  have c4 : (o.kind == 4) = false := by simp [hk]
  have b4 : decide (o.kind = 4) = false := by simp [hk]
  have c5 : (o.kind == 5) = false := by simp [hk]
  have b5 : decide (o.kind = 5) = false := by simp [hk]
  have c6 : (o.kind == 6) = true := by simp [hk]
  have b6 : decide (o.kind = 6) = true := by simp [hk]
  obtain ⟨W0, hW0, h4⟩ := four_alloc (s := s) o hrow
  have hW0 : (((w.alloc (.cells (rC p n c s) 38)).alloc (.cells #[.int .i64 o.kind, .int .i64 o.now, .int .i64 o.n, .string o.s, .string o.t.s, .int .i64 o.t.k, .bool o.t.up, .int .i64 o.t.o, .int .i64 o.t.a, .int .i64 o.t.b] 44)).alloc (.cells #[.string ⟨#[]⟩, .int .i64 0, .bool false, .int .i64 0, .int .i64 0, .int .i64 0, .int .u64 0, .int .i64 0, .int .i64 0, .int .i64 0, .int .i64 0, .string ⟨#[]⟩, .slice none 0 0, .int .i64 0, .int .i64 0, .int .i64 0, .int .i64 0, .int .i64 0, .int .i64 0, .bool false, .int .i64 0, .int .i64 0] 38)).alloc (.cells #[.int .i64 0, .string ⟨#[]⟩, .int .i64 0] 46) = W0 := hW0
  have H0 := Lib.hid h4
  have i0 := h4.q.is
  have k0 := h4.q.cells
  have hlt := h4.lt
  clear h4 hrow hk
  have y0 : W0.cell? ⟨w.heap.size + 1, 0, none⟩ = some (.int .i64 o.kind) := H0.out.oc 0
  have x11 : W0.cell? ⟨w.heap.size, 11, none⟩ = some (.string s.S) := H0.out.q.cell 11
  have x12 : W0.cell? ⟨w.heap.size, 12, none⟩ = some (.slice p n c) := H0.out.q.cell 12
  have x13 : W0.cell? ⟨w.heap.size, 13, none⟩ = some (.int .i64 s.last) := H0.out.q.cell 13
  have f11 : W0.frozen? ⟨w.heap.size, 11, none⟩ = false := H0.out.q.frz 11
  have f12 : W0.frozen? ⟨w.heap.size, 12, none⟩ = false := H0.out.q.frz 12
  have f13 : W0.frozen? ⟨w.heap.size, 13, none⟩ = false := H0.out.q.frz 13
  have H1 := Lib.hid (show Four w (putC W0 w.heap.size ⟨#[]⟩ none 0 0 s.last) o none 0 0 { s with S := ⟨#[]⟩, A := [] } from H0.out.putC ⟨#[]⟩ [] none 0 0 s.last (gc.rowA_nil W0))
  go_enter Tryz.func8, Tryz.ntmps8
  go_upto_region 32 with fail
  clear hW0
  generalize hW1 : putC W0 w.heap.size ⟨#[]⟩ none 0 0 s.last = w1 at *
  unfold Go.Proofs.YtlbihcpglcdmmaaGreat.putC at hW1
  rw [hW1]
  clear hW1 y0 x11 x12 x13 f11 f12 f13 i0 k0 hlt H0 c0 c1 c2 c3 c4 c5 c6 b0 b1 b2 b3 b4 b5 b6
  obtain ⟨⟨t0, t1, t2⟩, ⟨g0, g1, g2⟩, hz, hza, hzr, hzb⟩ := H1.out.fin (p' := none) (n' := 0) (c' := 0) (s' := { s with S := ⟨#[]⟩, A := [] }) H1.out.row ⟨0, s.S, 0⟩
  have HZ := Lib.hid hz
  have HZA := Lib.hid hza
  have HZR := Lib.hid hzr
  have HZB := Lib.hid hzb
  have i1z := H1.out.q.is
  have k1z := H1.out.q.cells
  have i2z := H1.out.r.is
  have hltz := H1.out.lt
  clear hz hza hzr hzb
  go_wp2_with fail
  generalize hWf : finW w1 (w.heap.size + 2) (w.heap.size + 3) (rC none 0 0 { s with S := ⟨#[]⟩, A := [] }) ⟨0, s.S, 0⟩ = wz at *
  unfold finW at hWf
  dsimp only at hWf
  try rw [hWf]
  exact bodyPost_ret (v := .tuple #[.agg (rC none 0 0 { s with S := ⟨#[]⟩, A := [] }), .agg #[.int .i64 0, .string s.S, .int .i64 0]]) (by simp [results, Tryz.results8, asAddr, loadVar_R HZ.out, loadVar_A HZA.out]) rfl ⟨none, 0, 0, rfl, HZR.out, HZB.out⟩
end Go.Proofs.YtlbihcpglcdmmaaGreat
namespace Go.Proofs.YtlbihcpglcdmmaaGreat
open Go.RowKit

attribute [local go_sem ↓] to_loadR to_storeR
attribute [local go_sem] run_loadR run_storeR rval
variable {w w' : World} {q n c : Nat} {p : Option Addr} {s s' : St}
set_option maxRecDepth 100000 in
set_option maxHeartbeats 8000000 in
theorem rdo_4 (p : Option Addr) (n c : Nat) (s : St) (o : Op) (w : World) (hrow : gc.RowA w p n c s.A) (hk : o.kind = 4) : Calls Tryz.prog 8 #[.agg (rC p n c s), .agg #[.int .i64 o.kind, .int .i64 o.now, .int .i64 o.n, .string o.s, .string o.t.s, .int .i64 o.t.k, .bool o.t.up, .int .i64 o.t.o, .int .i64 o.t.a, .int .i64 o.t.b]] w (Brg (lookS s o.now) ⟨(lookS s o.now).st, ⟨#[]⟩, 0⟩ w) := by
  have HLK := Lib.hid (fun W => rlook_any p n c s o.now W)
  obtain ⟨W0, hW0, h4⟩ := four_alloc (s := s) o hrow
  have hW0 : (((w.alloc (.cells (rC p n c s) 38)).alloc (.cells #[.int .i64 o.kind, .int .i64 o.now, .int .i64 o.n, .string o.s, .string o.t.s, .int .i64 o.t.k, .bool o.t.up, .int .i64 o.t.o, .int .i64 o.t.a, .int .i64 o.t.b] 44)).alloc (.cells #[.string ⟨#[]⟩, .int .i64 0, .bool false, .int .i64 0, .int .i64 0, .int .i64 0, .int .u64 0, .int .i64 0, .int .i64 0, .int .i64 0, .int .i64 0, .string ⟨#[]⟩, .slice none 0 0, .int .i64 0, .int .i64 0, .int .i64 0, .int .i64 0, .int .i64 0, .int .i64 0, .bool false, .int .i64 0, .int .i64 0] 38)).alloc (.cells #[.int .i64 0, .string ⟨#[]⟩, .int .i64 0] 46) = W0 := hW0
  have H0 := Lib.hid h4
  have i0 := h4.q.is
  have k0 := h4.q.cells
  have hlt := h4.lt
  clear h4 hrow 
  have y0 : W0.cell? ⟨w.heap.size + 1, 0, none⟩ = some (.int .i64 o.kind) := H0.out.oc 0
  have y1 : W0.cell? ⟨w.heap.size + 1, 1, none⟩ = some (.int .i64 o.now) := H0.out.oc 1
  rw [hk] at y0
  clear hk
  go_enter Tryz.func8, Tryz.ntmps8
  go_wp2_with fail
  clear hW0
  refine (HLK.out _).mono ?_
  rintro e w1 ⟨rfl, hb1⟩
  have H1 := Lib.hid (H0.out.on hb1)
  have i1 := H1.out.q.is
  have H2 := Lib.hid (H1.out.row_set (lookS s o.now) rfl)
  clear hb1 H0 HLK y0 y1 i0 k0 hlt
  go_upto_region 26 with fail
  generalize w1.setRow w.heap.size (rC p n c (lookS s o.now)) = w2 at *
  clear i1 H1
  have x21 : w2.cell? ⟨w.heap.size, 21, none⟩ = some (.int .i64 (lookS s o.now).st) := H2.out.q.cell 21
  have i1 := H2.out.q.is
  have k1 := H2.out.q.cells
  have i2 := H2.out.r.is
  have j1 := H2.out.q.drew.is
  have l1 := H2.out.q.drew.cells
  have j2 := H2.out.r.drew.is
  have h3 := H2.out.on (Below.refl _ w2).drew
  obtain ⟨⟨t0, t1, t2⟩, ⟨g0, g1, g2⟩, hz, hza, hzr, hzb⟩ := h3.fin (p' := p) (n' := n) (c' := c) (s' := lookS s o.now) h3.row ⟨(lookS s o.now).st, ⟨#[]⟩, 0⟩
  have z21 : (w2.drew.setRow (w.heap.size + 2) (rC p n c (lookS s o.now))).cell? ⟨w.heap.size, 21, none⟩ = some (.int .i64 (lookS s o.now).st) := (h3.q.farRow (rC p n c (lookS s o.now)) (show w.heap.size ≠ w.heap.size + 2 by omega)).cell 21
  have hltz := H2.out.lt
  have HZ := Lib.hid hz
  have HZA := Lib.hid hza
  have HZR := Lib.hid hzr
  have HZB := Lib.hid hzb
  clear hz hza hzr hzb h3
  go_region_law
    (first
      | fail)
  all_goals (
    go_wp2_with fail
    generalize hWf : finW w2.drew (w.heap.size + 2) (w.heap.size + 3) (rC p n c (lookS s o.now)) ⟨(lookS s o.now).st, ⟨#[]⟩, 0⟩ = wz at *
    unfold finW at hWf
    dsimp only at hWf
    try rw [hWf]
    exact bodyPost_ret (v := .tuple #[.agg (rC p n c (lookS s o.now)), .agg #[.int .i64 (lookS s o.now).st, .string ⟨#[]⟩, .int .i64 0]]) (by simp [results, Tryz.results8, asAddr, loadVar_R HZ.out, loadVar_A HZA.out]) rfl ⟨p, n, c, rfl, HZR.out, HZB.out⟩)
end Go.Proofs.YtlbihcpglcdmmaaGreat
namespace Go.Proofs.YtlbihcpglcdmmaaGreat
open Go.RowKit

attribute [local go_sem ↓] to_loadR to_storeR
attribute [local go_sem] run_loadR run_storeR rval
variable {w w' : World} {q n c : Nat} {p : Option Addr} {s s' : St}
set_option maxRecDepth 100000 in
set_option maxHeartbeats 8000000 in
theorem rdo_3ts (p : Option Addr) (n c : Nat) (s : St) (o : Op) (w : World) (hrow : gc.RowA w p n c s.A) (hk : o.kind = 3) (hl : s.clock < gb.near o.now) (hc : s.closed = true) : Calls Tryz.prog 8 #[.agg (rC p n c s), .agg #[.int .i64 o.kind, .int .i64 o.now, .int .i64 o.n, .string o.s, .string o.t.s, .int .i64 o.t.k, .bool o.t.up, .int .i64 o.t.o, .int .i64 o.t.a, .int .i64 o.t.b]] w (Brg { s with clock := gb.near o.now } ⟨0, ⟨#[]⟩, 0⟩ w) := by
  have HNR := Lib.hid (fun W => gb.rnear_any o.now W)
  have hd : decide (s.clock < gb.near o.now) = true := by simpa using hl
  have HC := Lib.hid hc
  have c0 : (o.kind == 0) = false := by simp [hk]
  have b0 : decide (o.kind = 0) = false := by simp [hk]
  have c1 : (o.kind == 1) = false := by simp [hk]
  have b1 : decide (o.kind = 1) = false := by simp [hk]
  have c2 : (o.kind == 2) = false := by simp [hk]
  have b2 : decide (o.kind = 2) = false := by simp [hk]
  have c3 : (o.kind == 3) = true := by simp [hk]
  have b3 : decide (o.kind = 3) = true := by simp [hk]
  obtain ⟨W0, hW0, h4⟩ := four_alloc (s := s) o hrow
  have hW0 : (((w.alloc (.cells (rC p n c s) 38)).alloc (.cells #[.int .i64 o.kind, .int .i64 o.now, .int .i64 o.n, .string o.s, .string o.t.s, .int .i64 o.t.k, .bool o.t.up, .int .i64 o.t.o, .int .i64 o.t.a, .int .i64 o.t.b] 44)).alloc (.cells #[.string ⟨#[]⟩, .int .i64 0, .bool false, .int .i64 0, .int .i64 0, .int .i64 0, .int .u64 0, .int .i64 0, .int .i64 0, .int .i64 0, .int .i64 0, .string ⟨#[]⟩, .slice none 0 0, .int .i64 0, .int .i64 0, .int .i64 0, .int .i64 0, .int .i64 0, .int .i64 0, .bool false, .int .i64 0, .int .i64 0] 38)).alloc (.cells #[.int .i64 0, .string ⟨#[]⟩, .int .i64 0] 46) = W0 := hW0
  have H0 := Lib.hid h4
  have i0 := h4.q.is
  have k0 := h4.q.cells
  have hlt := h4.lt
  clear h4 hrow hk hl hc
  have y0 : W0.cell? ⟨w.heap.size + 1, 0, none⟩ = some (.int .i64 o.kind) := H0.out.oc 0
  have y1 : W0.cell? ⟨w.heap.size + 1, 1, none⟩ = some (.int .i64 o.now) := H0.out.oc 1
  go_enter Tryz.func8, Tryz.ntmps8
  go_wp2_with fail
  clear hW0
  refine (HNR.out _).mono ?_
  rintro e w0 ⟨rfl, rfl⟩
  have x16 : W0.cell? ⟨w.heap.size, 16, none⟩ = some (.int .i64 s.clock) := H0.out.q.cell 16
  have f16 : W0.frozen? ⟨w.heap.size, 16, none⟩ = false := H0.out.q.frz 16
  have H1 := Lib.hid (H0.out.setC (i := 16) (v := .int .i64 (gb.near o.now)) (s' := { s with clock := gb.near o.now }) rfl rfl)
  go_upto_region 21 with fail
  generalize W0.setCell ⟨w.heap.size, 16, none⟩ (.int .i64 (gb.near o.now)) = w1 at *
  clear x16 f16 y0 y1 i0 k0 hlt HNR hd c0 c1 c2 c3 b0 b1 b2 b3
  have x19 : w1.cell? ⟨w.heap.size, 19, none⟩ = some (.bool s.closed) := H1.out.q.cell 19
  rw [HC.out] at x19
  go_upto_region 33 with fail
  clear x19
  obtain ⟨⟨t0, t1, t2⟩, ⟨g0, g1, g2⟩, hz, hza, hzr, hzb⟩ := H1.out.fin (p' := p) (n' := n) (c' := c) (s' := { s with clock := gb.near o.now }) H1.out.row ⟨0, ⟨#[]⟩, 0⟩
  have HZ := Lib.hid hz
  have HZA := Lib.hid hza
  have HZR := Lib.hid hzr
  have HZB := Lib.hid hzb
  have i1z := H1.out.q.is
  have k1z := H1.out.q.cells
  have i2z := H1.out.r.is
  have hltz := H1.out.lt
  clear hz hza hzr hzb
  go_wp2_with fail
  generalize hWf : finW w1 (w.heap.size + 2) (w.heap.size + 3) (rC p n c { s with clock := gb.near o.now }) ⟨0, ⟨#[]⟩, 0⟩ = wz at *
  unfold finW at hWf
  dsimp only at hWf
  try rw [hWf]
  exact bodyPost_ret (v := .tuple #[.agg (rC p n c { s with clock := gb.near o.now }), .agg #[.int .i64 0, .string ⟨#[]⟩, .int .i64 0]]) (by simp [results, Tryz.results8, asAddr, loadVar_R HZ.out, loadVar_A HZA.out]) rfl ⟨p, n, c, rfl, HZR.out, HZB.out⟩
set_option maxRecDepth 100000 in
set_option maxHeartbeats 8000000 in
theorem rdo_3fs (p : Option Addr) (n c : Nat) (s : St) (o : Op) (w : World) (hrow : gc.RowA w p n c s.A) (hk : o.kind = 3) (hl : ¬ s.clock < gb.near o.now) (hc : s.closed = true) : Calls Tryz.prog 8 #[.agg (rC p n c s), .agg #[.int .i64 o.kind, .int .i64 o.now, .int .i64 o.n, .string o.s, .string o.t.s, .int .i64 o.t.k, .bool o.t.up, .int .i64 o.t.o, .int .i64 o.t.a, .int .i64 o.t.b]] w (Brg s ⟨0, ⟨#[]⟩, 0⟩ w) := by
  have HNR := Lib.hid (fun W => gb.rnear_any o.now W)
  have hd : decide (s.clock < gb.near o.now) = false := by simpa using hl
  have HC := Lib.hid hc
  have c0 : (o.kind == 0) = false := by simp [hk]
  have b0 : decide (o.kind = 0) = false := by simp [hk]
  have c1 : (o.kind == 1) = false := by simp [hk]
  have b1 : decide (o.kind = 1) = false := by simp [hk]
  have c2 : (o.kind == 2) = false := by simp [hk]
  have b2 : decide (o.kind = 2) = false := by simp [hk]
  have c3 : (o.kind == 3) = true := by simp [hk]
  have b3 : decide (o.kind = 3) = true := by simp [hk]
  obtain ⟨W0, hW0, h4⟩ := four_alloc (s := s) o hrow
  have hW0 : (((w.alloc (.cells (rC p n c s) 38)).alloc (.cells #[.int .i64 o.kind, .int .i64 o.now, .int .i64 o.n, .string o.s, .string o.t.s, .int .i64 o.t.k, .bool o.t.up, .int .i64 o.t.o, .int .i64 o.t.a, .int .i64 o.t.b] 44)).alloc (.cells #[.string ⟨#[]⟩, .int .i64 0, .bool false, .int .i64 0, .int .i64 0, .int .i64 0, .int .u64 0, .int .i64 0, .int .i64 0, .int .i64 0, .int .i64 0, .string ⟨#[]⟩, .slice none 0 0, .int .i64 0, .int .i64 0, .int .i64 0, .int .i64 0, .int .i64 0, .int .i64 0, .bool false, .int .i64 0, .int .i64 0] 38)).alloc (.cells #[.int .i64 0, .string ⟨#[]⟩, .int .i64 0] 46) = W0 := hW0
  have H0 := Lib.hid h4
  have i0 := h4.q.is
  have k0 := h4.q.cells
  have hlt := h4.lt
  clear h4 hrow hk hl hc
  have y0 : W0.cell? ⟨w.heap.size + 1, 0, none⟩ = some (.int .i64 o.kind) := H0.out.oc 0
  have y1 : W0.cell? ⟨w.heap.size + 1, 1, none⟩ = some (.int .i64 o.now) := H0.out.oc 1
  go_enter Tryz.func8, Tryz.ntmps8
  go_wp2_with fail
  clear hW0
  refine (HNR.out _).mono ?_
  rintro e w0 ⟨rfl, rfl⟩
  have x16 : W0.cell? ⟨w.heap.size, 16, none⟩ = some (.int .i64 s.clock) := H0.out.q.cell 16
  have f16 : W0.frozen? ⟨w.heap.size, 16, none⟩ = false := H0.out.q.frz 16
  have H1 := H0
  go_upto_region 21 with fail
  generalize W0 = w1 at *
  clear x16 f16 y0 y1 i0 k0 hlt HNR hd c0 c1 c2 c3 b0 b1 b2 b3
  have x19 : w1.cell? ⟨w.heap.size, 19, none⟩ = some (.bool s.closed) := H1.out.q.cell 19
  rw [HC.out] at x19
  go_upto_region 33 with fail
  clear x19
  obtain ⟨⟨t0, t1, t2⟩, ⟨g0, g1, g2⟩, hz, hza, hzr, hzb⟩ := H1.out.fin (p' := p) (n' := n) (c' := c) (s' := s) H1.out.row ⟨0, ⟨#[]⟩, 0⟩
  have HZ := Lib.hid hz
  have HZA := Lib.hid hza
  have HZR := Lib.hid hzr
  have HZB := Lib.hid hzb
  have i1z := H1.out.q.is
  have k1z := H1.out.q.cells
  have i2z := H1.out.r.is
  have hltz := H1.out.lt
  clear hz hza hzr hzb
  go_wp2_with fail
  generalize hWf : finW w1 (w.heap.size + 2) (w.heap.size + 3) (rC p n c s) ⟨0, ⟨#[]⟩, 0⟩ = wz at *
  unfold finW at hWf
  dsimp only at hWf
  try rw [hWf]
  exact bodyPost_ret (v := .tuple #[.agg (rC p n c s), .agg #[.int .i64 0, .string ⟨#[]⟩, .int .i64 0]]) (by simp [results, Tryz.results8, asAddr, loadVar_R HZ.out, loadVar_A HZA.out]) rfl ⟨p, n, c, rfl, HZR.out, HZB.out⟩
set_option maxRecDepth 100000 in
set_option maxHeartbeats 8000000 in
theorem rdo_3to (p : Option Addr) (n c : Nat) (s : St) (o : Op) (w : World) (hrow : gc.RowA w p n c s.A) (hk : o.kind = 3) (hl : s.clock < gb.near o.now) (hc : s.closed = false) : Calls Tryz.prog 8 #[.agg (rC p n c s), .agg #[.int .i64 o.kind, .int .i64 o.now, .int .i64 o.n, .string o.s, .string o.t.s, .int .i64 o.t.k, .bool o.t.up, .int .i64 o.t.o, .int .i64 o.t.a, .int .i64 o.t.b]] w (Brg { s with clock := gb.near o.now, closed := true, at' := gb.near o.now } ⟨0, ⟨#[]⟩, 0⟩ w) := by
  have HNR := Lib.hid (fun W => gb.rnear_any o.now W)
  have hd : decide (s.clock < gb.near o.now) = true := by simpa using hl
  have HC := Lib.hid hc
  have c0 : (o.kind == 0) = false := by simp [hk]
  have b0 : decide (o.kind = 0) = false := by simp [hk]
  have c1 : (o.kind == 1) = false := by simp [hk]
  have b1 : decide (o.kind = 1) = false := by simp [hk]
  have c2 : (o.kind == 2) = false := by simp [hk]
  have b2 : decide (o.kind = 2) = false := by simp [hk]
  have c3 : (o.kind == 3) = true := by simp [hk]
  have b3 : decide (o.kind = 3) = true := by simp [hk]
  obtain ⟨W0, hW0, h4⟩ := four_alloc (s := s) o hrow
  have hW0 : (((w.alloc (.cells (rC p n c s) 38)).alloc (.cells #[.int .i64 o.kind, .int .i64 o.now, .int .i64 o.n, .string o.s, .string o.t.s, .int .i64 o.t.k, .bool o.t.up, .int .i64 o.t.o, .int .i64 o.t.a, .int .i64 o.t.b] 44)).alloc (.cells #[.string ⟨#[]⟩, .int .i64 0, .bool false, .int .i64 0, .int .i64 0, .int .i64 0, .int .u64 0, .int .i64 0, .int .i64 0, .int .i64 0, .int .i64 0, .string ⟨#[]⟩, .slice none 0 0, .int .i64 0, .int .i64 0, .int .i64 0, .int .i64 0, .int .i64 0, .int .i64 0, .bool false, .int .i64 0, .int .i64 0] 38)).alloc (.cells #[.int .i64 0, .string ⟨#[]⟩, .int .i64 0] 46) = W0 := hW0
  have H0 := Lib.hid h4
  have i0 := h4.q.is
  have k0 := h4.q.cells
  have hlt := h4.lt
  clear h4 hrow hk hl hc
  have y0 : W0.cell? ⟨w.heap.size + 1, 0, none⟩ = some (.int .i64 o.kind) := H0.out.oc 0
  have y1 : W0.cell? ⟨w.heap.size + 1, 1, none⟩ = some (.int .i64 o.now) := H0.out.oc 1
  go_enter Tryz.func8, Tryz.ntmps8
  go_wp2_with fail
  clear hW0
  refine (HNR.out _).mono ?_
  rintro e w0 ⟨rfl, rfl⟩
  have x16 : W0.cell? ⟨w.heap.size, 16, none⟩ = some (.int .i64 s.clock) := H0.out.q.cell 16
  have f16 : W0.frozen? ⟨w.heap.size, 16, none⟩ = false := H0.out.q.frz 16
  have H1 := Lib.hid (H0.out.setC (i := 16) (v := .int .i64 (gb.near o.now)) (s' := { s with clock := gb.near o.now }) rfl rfl)
  go_upto_region 21 with fail
  generalize W0.setCell ⟨w.heap.size, 16, none⟩ (.int .i64 (gb.near o.now)) = w1 at *
  clear x16 f16 y0 y1 i0 k0 hlt HNR hd c0 c1 c2 c3 b0 b1 b2 b3
  have x19 : w1.cell? ⟨w.heap.size, 19, none⟩ = some (.bool s.closed) := H1.out.q.cell 19
  rw [HC.out] at x19
  have f19 : w1.frozen? ⟨w.heap.size, 19, none⟩ = false := H1.out.q.frz 19
  have H2 := Lib.hid (H1.out.setC (i := 19) (v := .bool true) (s' := { s with clock := gb.near o.now, closed := true }) rfl rfl)
  go_upto_region 23 with fail
  generalize w1.setCell ⟨w.heap.size, 19, none⟩ (.bool true) = w2 at *
  clear x19 f19 H1
  have x16 : w2.cell? ⟨w.heap.size, 16, none⟩ = some (.int .i64 (gb.near o.now)) := H2.out.q.cell 16
  have x20 : w2.cell? ⟨w.heap.size, 20, none⟩ = some (.int .i64 s.at') := H2.out.q.cell 20
  have f20 : w2.frozen? ⟨w.heap.size, 20, none⟩ = false := H2.out.q.frz 20
  have H3 := Lib.hid (H2.out.setC (i := 20) (v := .int .i64 (gb.near o.now)) (s' := { s with clock := gb.near o.now, closed := true, at' := gb.near o.now }) rfl rfl)
  go_upto_region 33 with fail
  generalize w2.setCell ⟨w.heap.size, 20, none⟩ (.int .i64 (gb.near o.now)) = w3 at *
  clear x16 x20 f20 H2
  obtain ⟨⟨t0, t1, t2⟩, ⟨g0, g1, g2⟩, hz, hza, hzr, hzb⟩ := H3.out.fin (p' := p) (n' := n) (c' := c) (s' := { s with clock := gb.near o.now, closed := true, at' := gb.near o.now }) H3.out.row ⟨0, ⟨#[]⟩, 0⟩
  have HZ := Lib.hid hz
  have HZA := Lib.hid hza
  have HZR := Lib.hid hzr
  have HZB := Lib.hid hzb
  have i1z := H3.out.q.is
  have k1z := H3.out.q.cells
  have i2z := H3.out.r.is
  have hltz := H3.out.lt
  clear hz hza hzr hzb
  go_wp2_with fail
  generalize hWf : finW w3 (w.heap.size + 2) (w.heap.size + 3) (rC p n c { s with clock := gb.near o.now, closed := true, at' := gb.near o.now }) ⟨0, ⟨#[]⟩, 0⟩ = wz at *
  unfold finW at hWf
  dsimp only at hWf
  try rw [hWf]
  exact bodyPost_ret (v := .tuple #[.agg (rC p n c { s with clock := gb.near o.now, closed := true, at' := gb.near o.now }), .agg #[.int .i64 0, .string ⟨#[]⟩, .int .i64 0]]) (by simp [results, Tryz.results8, asAddr, loadVar_R HZ.out, loadVar_A HZA.out]) rfl ⟨p, n, c, rfl, HZR.out, HZB.out⟩
set_option maxRecDepth 100000 in
set_option maxHeartbeats 8000000 in
theorem rdo_3fo (p : Option Addr) (n c : Nat) (s : St) (o : Op) (w : World) (hrow : gc.RowA w p n c s.A) (hk : o.kind = 3) (hl : ¬ s.clock < gb.near o.now) (hc : s.closed = false) : Calls Tryz.prog 8 #[.agg (rC p n c s), .agg #[.int .i64 o.kind, .int .i64 o.now, .int .i64 o.n, .string o.s, .string o.t.s, .int .i64 o.t.k, .bool o.t.up, .int .i64 o.t.o, .int .i64 o.t.a, .int .i64 o.t.b]] w (Brg { s with closed := true, at' := s.clock } ⟨0, ⟨#[]⟩, 0⟩ w) := by
  have HNR := Lib.hid (fun W => gb.rnear_any o.now W)
  have hd : decide (s.clock < gb.near o.now) = false := by simpa using hl
  have HC := Lib.hid hc
  have c0 : (o.kind == 0) = false := by simp [hk]
  have b0 : decide (o.kind = 0) = false := by simp [hk]
  have c1 : (o.kind == 1) = false := by simp [hk]
  have b1 : decide (o.kind = 1) = false := by simp [hk]
  have c2 : (o.kind == 2) = false := by simp [hk]
  have b2 : decide (o.kind = 2) = false := by simp [hk]
  have c3 : (o.kind == 3) = true := by simp [hk]
  have b3 : decide (o.kind = 3) = true := by simp [hk]
  obtain ⟨W0, hW0, h4⟩ := four_alloc (s := s) o hrow
  have hW0 : (((w.alloc (.cells (rC p n c s) 38)).alloc (.cells #[.int .i64 o.kind, .int .i64 o.now, .int .i64 o.n, .string o.s, .string o.t.s, .int .i64 o.t.k, .bool o.t.up, .int .i64 o.t.o, .int .i64 o.t.a, .int .i64 o.t.b] 44)).alloc (.cells #[.string ⟨#[]⟩, .int .i64 0, .bool false, .int .i64 0, .int .i64 0, .int .i64 0, .int .u64 0, .int .i64 0, .int .i64 0, .int .i64 0, .int .i64 0, .string ⟨#[]⟩, .slice none 0 0, .int .i64 0, .int .i64 0, .int .i64 0, .int .i64 0, .int .i64 0, .int .i64 0, .bool false, .int .i64 0, .int .i64 0] 38)).alloc (.cells #[.int .i64 0, .string ⟨#[]⟩, .int .i64 0] 46) = W0 := hW0
  have H0 := Lib.hid h4
  have i0 := h4.q.is
  have k0 := h4.q.cells
  have hlt := h4.lt
  clear h4 hrow hk hl hc
  have y0 : W0.cell? ⟨w.heap.size + 1, 0, none⟩ = some (.int .i64 o.kind) := H0.out.oc 0
  have y1 : W0.cell? ⟨w.heap.size + 1, 1, none⟩ = some (.int .i64 o.now) := H0.out.oc 1
  go_enter Tryz.func8, Tryz.ntmps8
  go_wp2_with fail
  clear hW0
  refine (HNR.out _).mono ?_
  rintro e w0 ⟨rfl, rfl⟩
  have x16 : W0.cell? ⟨w.heap.size, 16, none⟩ = some (.int .i64 s.clock) := H0.out.q.cell 16
  have f16 : W0.frozen? ⟨w.heap.size, 16, none⟩ = false := H0.out.q.frz 16
  have H1 := H0
  go_upto_region 21 with fail
  generalize W0 = w1 at *
  clear x16 f16 y0 y1 i0 k0 hlt HNR hd c0 c1 c2 c3 b0 b1 b2 b3
  have x19 : w1.cell? ⟨w.heap.size, 19, none⟩ = some (.bool s.closed) := H1.out.q.cell 19
  rw [HC.out] at x19
  have f19 : w1.frozen? ⟨w.heap.size, 19, none⟩ = false := H1.out.q.frz 19
  have H2 := Lib.hid (H1.out.setC (i := 19) (v := .bool true) (s' := { s with closed := true }) rfl rfl)
  go_upto_region 23 with fail
  generalize w1.setCell ⟨w.heap.size, 19, none⟩ (.bool true) = w2 at *
  clear x19 f19 H1
  have x16 : w2.cell? ⟨w.heap.size, 16, none⟩ = some (.int .i64 (s.clock)) := H2.out.q.cell 16
  have x20 : w2.cell? ⟨w.heap.size, 20, none⟩ = some (.int .i64 s.at') := H2.out.q.cell 20
  have f20 : w2.frozen? ⟨w.heap.size, 20, none⟩ = false := H2.out.q.frz 20
  have H3 := Lib.hid (H2.out.setC (i := 20) (v := .int .i64 (s.clock)) (s' := { s with closed := true, at' := s.clock }) rfl rfl)
  go_upto_region 33 with fail
  generalize w2.setCell ⟨w.heap.size, 20, none⟩ (.int .i64 (s.clock)) = w3 at *
  clear x16 x20 f20 H2
  obtain ⟨⟨t0, t1, t2⟩, ⟨g0, g1, g2⟩, hz, hza, hzr, hzb⟩ := H3.out.fin (p' := p) (n' := n) (c' := c) (s' := { s with closed := true, at' := s.clock }) H3.out.row ⟨0, ⟨#[]⟩, 0⟩
  have HZ := Lib.hid hz
  have HZA := Lib.hid hza
  have HZR := Lib.hid hzr
  have HZB := Lib.hid hzb
  have i1z := H3.out.q.is
  have k1z := H3.out.q.cells
  have i2z := H3.out.r.is
  have hltz := H3.out.lt
  clear hz hza hzr hzb
  go_wp2_with fail
  generalize hWf : finW w3 (w.heap.size + 2) (w.heap.size + 3) (rC p n c { s with closed := true, at' := s.clock }) ⟨0, ⟨#[]⟩, 0⟩ = wz at *
  unfold finW at hWf
  dsimp only at hWf
  try rw [hWf]
  exact bodyPost_ret (v := .tuple #[.agg (rC p n c { s with closed := true, at' := s.clock }), .agg #[.int .i64 0, .string ⟨#[]⟩, .int .i64 0]]) (by simp [results, Tryz.results8, asAddr, loadVar_R HZ.out, loadVar_A HZA.out]) rfl ⟨p, n, c, rfl, HZR.out, HZB.out⟩
end Go.Proofs.YtlbihcpglcdmmaaGreat
namespace Go.Proofs.YtlbihcpglcdmmaaGreat
open Go.RowKit

attribute [local go_sem ↓] to_loadR to_storeR
attribute [local go_sem] run_loadR run_storeR rval
variable {w w' : World} {q n c : Nat} {p : Option Addr} {s s' : St}
set_option maxRecDepth 100000 in
set_option maxHeartbeats 8000000 in
theorem rdo_2a (p : Option Addr) (n c : Nat) (s : St) (o : Op) (w : World) (hrow : gc.RowA w p n c s.A) (hk : o.kind = 2) (hst : (lookS s o.now).st ≠ 0) : Calls Tryz.prog 8 #[.agg (rC p n c s), .agg #[.int .i64 o.kind, .int .i64 o.now, .int .i64 o.n, .string o.s, .string o.t.s, .int .i64 o.t.k, .bool o.t.up, .int .i64 o.t.o, .int .i64 o.t.a, .int .i64 o.t.b]] w (Brg (lookS s o.now) ⟨0, ⟨#[]⟩, 0⟩ w) := by
  have HLK := Lib.hid (fun W => rlook_any p n c s o.now W)
  have e1 : ((lookS s o.now).st != 0) = true := by simpa using hst
  have e2 : decide ((lookS s o.now).st = 0) = false := by simpa using hst
  have c0 : (o.kind == 0) = false := by simp [hk]
  have b0 : decide (o.kind = 0) = false := by simp [hk]
  have c1 : (o.kind == 1) = false := by simp [hk]
  have b1 : decide (o.kind = 1) = false := by simp [hk]
  have c2 : (o.kind == 2) = true := by simp [hk]
  have b2 : decide (o.kind = 2) = true := by simp [hk]
  obtain ⟨W0, hW0, h4⟩ := four_alloc (s := s) o hrow
  have hW0 : (((w.alloc (.cells (rC p n c s) 38)).alloc (.cells #[.int .i64 o.kind, .int .i64 o.now, .int .i64 o.n, .string o.s, .string o.t.s, .int .i64 o.t.k, .bool o.t.up, .int .i64 o.t.o, .int .i64 o.t.a, .int .i64 o.t.b] 44)).alloc (.cells #[.string ⟨#[]⟩, .int .i64 0, .bool false, .int .i64 0, .int .i64 0, .int .i64 0, .int .u64 0, .int .i64 0, .int .i64 0, .int .i64 0, .int .i64 0, .string ⟨#[]⟩, .slice none 0 0, .int .i64 0, .int .i64 0, .int .i64 0, .int .i64 0, .int .i64 0, .int .i64 0, .bool false, .int .i64 0, .int .i64 0] 38)).alloc (.cells #[.int .i64 0, .string ⟨#[]⟩, .int .i64 0] 46) = W0 := hW0
  have H0 := Lib.hid h4
  have i0 := h4.q.is
  have k0 := h4.q.cells
  have hlt := h4.lt
  clear h4 hrow hk hst
  have y0 : W0.cell? ⟨w.heap.size + 1, 0, none⟩ = some (.int .i64 o.kind) := H0.out.oc 0
  have y1 : W0.cell? ⟨w.heap.size + 1, 1, none⟩ = some (.int .i64 o.now) := H0.out.oc 1
  go_enter Tryz.func8, Tryz.ntmps8
  go_wp2_with fail
  clear hW0
  refine (HLK.out _).mono ?_
  rintro e w1 ⟨rfl, hb1⟩
  have H1 := Lib.hid (H0.out.on hb1)
  have i1 := H1.out.q.is
  have H2 := Lib.hid (H1.out.row_set (lookS s o.now) rfl)
  clear hb1 H0 HLK y0 y1 i0 k0 hlt c0 c1 c2 b0 b1 b2
  go_upto_region 7 with fail
  generalize w1.setRow w.heap.size (rC p n c (lookS s o.now)) = w2 at *
  clear i1 H1
  have x21 : w2.cell? ⟨w.heap.size, 21, none⟩ = some (.int .i64 (lookS s o.now).st) := H2.out.q.cell 21
  go_upto_region 8 with fail
  clear x21 e1 e2
  obtain ⟨⟨t0, t1, t2⟩, ⟨g0, g1, g2⟩, hz, hza, hzr, hzb⟩ := H2.out.fin (p' := p) (n' := n) (c' := c) (s' := (lookS s o.now)) H2.out.row ⟨0, ⟨#[]⟩, 0⟩
  have HZ := Lib.hid hz
  have HZA := Lib.hid hza
  have HZR := Lib.hid hzr
  have HZB := Lib.hid hzb
  have i1z := H2.out.q.is
  have k1z := H2.out.q.cells
  have i2z := H2.out.r.is
  have hltz := H2.out.lt
  clear hz hza hzr hzb
  go_wp2_with fail
  generalize hWf : finW w2 (w.heap.size + 2) (w.heap.size + 3) (rC p n c (lookS s o.now)) ⟨0, ⟨#[]⟩, 0⟩ = wz at *
  unfold finW at hWf
  dsimp only at hWf
  try rw [hWf]
  exact bodyPost_ret (v := .tuple #[.agg (rC p n c (lookS s o.now)), .agg #[.int .i64 0, .string ⟨#[]⟩, .int .i64 0]]) (by simp [results, Tryz.results8, asAddr, loadVar_R HZ.out, loadVar_A HZA.out]) rfl ⟨p, n, c, rfl, HZR.out, HZB.out⟩
set_option maxRecDepth 100000 in
set_option maxHeartbeats 8000000 in
theorem rdo_2b (p : Option Addr) (n c : Nat) (s : St) (o : Op) (w : World) (hrow : gc.RowA w p n c s.A) (hk : o.kind = 2) (hst : (lookS s o.now).st = 0) (hn : o.n < 1) : Calls Tryz.prog 8 #[.agg (rC p n c s), .agg #[.int .i64 o.kind, .int .i64 o.now, .int .i64 o.n, .string o.s, .string o.t.s, .int .i64 o.t.k, .bool o.t.up, .int .i64 o.t.o, .int .i64 o.t.a, .int .i64 o.t.b]] w (Brg (lookS s o.now) ⟨0, ⟨#[]⟩, 0⟩ w) := by
  have HLK := Lib.hid (fun W => rlook_any p n c s o.now W)
  have HST := Lib.hid hst
  have dn : decide (o.n < 1) = true := by simpa using hn
  have c0 : (o.kind == 0) = false := by simp [hk]
  have b0 : decide (o.kind = 0) = false := by simp [hk]
  have c1 : (o.kind == 1) = false := by simp [hk]
  have b1 : decide (o.kind = 1) = false := by simp [hk]
  have c2 : (o.kind == 2) = true := by simp [hk]
  have b2 : decide (o.kind = 2) = true := by simp [hk]
  obtain ⟨W0, hW0, h4⟩ := four_alloc (s := s) o hrow
  have hW0 : (((w.alloc (.cells (rC p n c s) 38)).alloc (.cells #[.int .i64 o.kind, .int .i64 o.now, .int .i64 o.n, .string o.s, .string o.t.s, .int .i64 o.t.k, .bool o.t.up, .int .i64 o.t.o, .int .i64 o.t.a, .int .i64 o.t.b] 44)).alloc (.cells #[.string ⟨#[]⟩, .int .i64 0, .bool false, .int .i64 0, .int .i64 0, .int .i64 0, .int .u64 0, .int .i64 0, .int .i64 0, .int .i64 0, .int .i64 0, .string ⟨#[]⟩, .slice none 0 0, .int .i64 0, .int .i64 0, .int .i64 0, .int .i64 0, .int .i64 0, .int .i64 0, .bool false, .int .i64 0, .int .i64 0] 38)).alloc (.cells #[.int .i64 0, .string ⟨#[]⟩, .int .i64 0] 46) = W0 := hW0
  have H0 := Lib.hid h4
  have i0 := h4.q.is
  have k0 := h4.q.cells
  have hlt := h4.lt
  clear h4 hrow hk hst hn
  have y0 : W0.cell? ⟨w.heap.size + 1, 0, none⟩ = some (.int .i64 o.kind) := H0.out.oc 0
  have y1 : W0.cell? ⟨w.heap.size + 1, 1, none⟩ = some (.int .i64 o.now) := H0.out.oc 1
  go_enter Tryz.func8, Tryz.ntmps8
  go_wp2_with fail
  clear hW0
  refine (HLK.out _).mono ?_
  rintro e w1 ⟨rfl, hb1⟩
  have H1 := Lib.hid (H0.out.on hb1)
  have i1 := H1.out.q.is
  have H2 := Lib.hid (H1.out.row_set (lookS s o.now) rfl)
  clear hb1 H0 HLK y0 y1 i0 k0 hlt c0 c1 c2 b0 b1 b2
  go_upto_region 7 with fail
  generalize w1.setRow w.heap.size (rC p n c (lookS s o.now)) = w2 at *
  clear i1 H1
  have x21 : w2.cell? ⟨w.heap.size, 21, none⟩ = some (.int .i64 (lookS s o.now).st) := H2.out.q.cell 21
  rw [HST.out] at x21
  have y2 : w2.cell? ⟨w.heap.size + 1, 2, none⟩ = some (.int .i64 o.n) := H2.out.oc 2
  go_upto_region 8 with fail
  clear x21 y2 dn
  obtain ⟨⟨t0, t1, t2⟩, ⟨g0, g1, g2⟩, hz, hza, hzr, hzb⟩ := H2.out.fin (p' := p) (n' := n) (c' := c) (s' := (lookS s o.now)) H2.out.row ⟨0, ⟨#[]⟩, 0⟩
  have HZ := Lib.hid hz
  have HZA := Lib.hid hza
  have HZR := Lib.hid hzr
  have HZB := Lib.hid hzb
  have i1z := H2.out.q.is
  have k1z := H2.out.q.cells
  have i2z := H2.out.r.is
  have hltz := H2.out.lt
  clear hz hza hzr hzb
  go_wp2_with fail
  generalize hWf : finW w2 (w.heap.size + 2) (w.heap.size + 3) (rC p n c (lookS s o.now)) ⟨0, ⟨#[]⟩, 0⟩ = wz at *
  unfold finW at hWf
  dsimp only at hWf
  try rw [hWf]
  exact bodyPost_ret (v := .tuple #[.agg (rC p n c (lookS s o.now)), .agg #[.int .i64 0, .string ⟨#[]⟩, .int .i64 0]]) (by simp [results, Tryz.results8, asAddr, loadVar_R HZ.out, loadVar_A HZA.out]) rfl ⟨p, n, c, rfl, HZR.out, HZB.out⟩
set_option maxRecDepth 100000 in
set_option maxHeartbeats 8000000 in
theorem rdo_2g (p : Option Addr) (n c : Nat) (s : St) (o : Op) (w : World) (hrow : gc.RowA w p n c s.A) (hk : o.kind = 2) (hst : (lookS s o.now).st = 0) (hn : ¬ o.n < 1) (hS : s.S.size = n) (hnb : n ≤ 100000) {R : Nat} (hR : gc.readyN s.A (lookS s o.now).clock = R) (hgt : o.n < (R : Int)) {G : St} {K : Nat} (htk : ∀ W, Calls Tryz.prog 28 #[.agg (rC p n c (lookS s o.now)), .int .i64 o.n] W fun e w' => e = .returned (.tuple #[.agg (rC p n c G), .int .i64 (K : Int)]) ∧ Below W.heap.size W w') (hGS : G.S = s.S) (hGA : G.A = s.A) (hK : gc.takeK G.A G.clock (K : Int) = K) {T S2 : ByteArray} (hT : G.S.extract 0 K = T) (hS2 : G.S.extract K n = S2) (hw : IntKind.i64.wrap (G.passed + (T.size : Int)) = G.passed + (T.size : Int)) : Calls Tryz.prog 8 #[.agg (rC p n c s), .agg #[.int .i64 o.kind, .int .i64 o.now, .int .i64 o.n, .string o.s, .string o.t.s, .int .i64 o.t.k, .bool o.t.up, .int .i64 o.t.o, .int .i64 o.t.a, .int .i64 o.t.b]] w (Brg { G with S := S2, A := G.A.drop K, passed := G.passed + (T.size : Int) } ⟨0, T, 0⟩ w) := by
  have HLK := Lib.hid (fun W => rlook_any p n c s o.now W)
  have HST := Lib.hid hst
  have dn : decide (o.n < 1) = false := by simpa using hn
  have dg : decide (o.n < (R : Int)) = true := by simpa using hgt
  have HRD := Lib.hid (fun W (hr : gc.RowA W p n c s.A) => show Calls Tryz.prog 27 #[.agg #[.string s.S, .slice p n c, .int .i64 s.last], .int .i64 (lookS s o.now).clock] W fun e w' => e = .returned (.int .i64 (R : Int)) ∧ Below W.heap.size W w' from by rw [← hR]; exact gc.rready_any s.S p n c s.A s.last (lookS s o.now).clock W hr.1 hS hnb hr.2.2.2.1)
  have HTK := Lib.hid htk
  have HCT := Lib.hid (fun W (hr : gc.RowA W p n c G.A) => show Calls Tryz.prog 29 #[.agg #[.string G.S, .slice p n c, .int .i64 G.last], .int .i64 G.clock, .int .i64 (K : Int)] W (gc.TookC S2 (G.A.drop K) G.last T W) from by rw [← hT, ← hS2]; exact gc.rtake_any G.S p n c G.A G.last G.clock (K : Int) W hr (by rw [hGS]; exact hS) hnb hK)
  have HGA := Lib.hid hGA
  have c0 : (o.kind == 0) = false := by simp [hk]
  have b0 : decide (o.kind = 0) = false := by simp [hk]
  have c1 : (o.kind == 1) = false := by simp [hk]
  have b1 : decide (o.kind = 1) = false := by simp [hk]
  have c2 : (o.kind == 2) = true := by simp [hk]
  have b2 : decide (o.kind = 2) = true := by simp [hk]
  obtain ⟨W0, hW0, h4⟩ := four_alloc (s := s) o hrow
  have hW0 : (((w.alloc (.cells (rC p n c s) 38)).alloc (.cells #[.int .i64 o.kind, .int .i64 o.now, .int .i64 o.n, .string o.s, .string o.t.s, .int .i64 o.t.k, .bool o.t.up, .int .i64 o.t.o, .int .i64 o.t.a, .int .i64 o.t.b] 44)).alloc (.cells #[.string ⟨#[]⟩, .int .i64 0, .bool false, .int .i64 0, .int .i64 0, .int .i64 0, .int .u64 0, .int .i64 0, .int .i64 0, .int .i64 0, .int .i64 0, .string ⟨#[]⟩, .slice none 0 0, .int .i64 0, .int .i64 0, .int .i64 0, .int .i64 0, .int .i64 0, .int .i64 0, .bool false, .int .i64 0, .int .i64 0] 38)).alloc (.cells #[.int .i64 0, .string ⟨#[]⟩, .int .i64 0] 46) = W0 := hW0
  have H0 := Lib.hid h4
  have i0 := h4.q.is
  have k0 := h4.q.cells
  have hlt := h4.lt
  clear h4 hrow hk hst hn hS hnb hR hgt htk hGS hGA hK hT hS2
  have y0 : W0.cell? ⟨w.heap.size + 1, 0, none⟩ = some (.int .i64 o.kind) := H0.out.oc 0
  have y1 : W0.cell? ⟨w.heap.size + 1, 1, none⟩ = some (.int .i64 o.now) := H0.out.oc 1
  go_enter Tryz.func8, Tryz.ntmps8
  go_wp2_with fail
  clear hW0
  refine (HLK.out _).mono ?_
  rintro e w1 ⟨rfl, hb1⟩
  have H1 := Lib.hid (H0.out.on hb1)
  have i1 := H1.out.q.is
  have H2 := Lib.hid (H1.out.row_set (lookS s o.now) rfl)
  clear hb1 H0 HLK y0 y1 i0 k0 hlt c0 c1 c2 b0 b1 b2
  go_upto_region 7 with fail
  generalize w1.setRow w.heap.size (rC p n c (lookS s o.now)) = w2 at *
  clear i1 H1
  have x21 : w2.cell? ⟨w.heap.size, 21, none⟩ = some (.int .i64 (lookS s o.now).st) := H2.out.q.cell 21
  rw [HST.out] at x21
  have y2 : w2.cell? ⟨w.heap.size + 1, 2, none⟩ = some (.int .i64 o.n) := H2.out.oc 2
  have x11 : w2.cell? ⟨w.heap.size, 11, none⟩ = some (.string s.S) := H2.out.q.cell 11
  have x12 : w2.cell? ⟨w.heap.size, 12, none⟩ = some (.slice p n c) := H2.out.q.cell 12
  have x13 : w2.cell? ⟨w.heap.size, 13, none⟩ = some (.int .i64 s.last) := H2.out.q.cell 13
  have x16 : w2.cell? ⟨w.heap.size, 16, none⟩ = some (.int .i64 (lookS s o.now).clock) := H2.out.q.cell 16
  go_wp2_with fail
  clear x21 y2 x11 x12 x13 x16 dn
  refine (HRD.out _ H2.out.row).mono ?_
  rintro e w3 ⟨rfl, hb3⟩
  have H3 := Lib.hid (H2.out.on hb3)
  clear hb3 H2 HRD
  have y2 : w3.cell? ⟨w.heap.size + 1, 2, none⟩ = some (.int .i64 o.n) := H3.out.oc 2
  have i1 := H3.out.q.is
  have k1 := H3.out.q.cells
  go_wp2_with fail
  clear y2 i1 k1 dg
  refine (HTK.out _).mono ?_
  rintro e w4 ⟨rfl, hb4⟩
  have H4 := Lib.hid (H3.out.on hb4)
  have hra := rat_alloc w4 none 0 0 noSt
  have hba : Below w4.heap.size w4 (w4.alloc (.cells (rC none 0 0 noSt) 38)) := (Below.refl _ _).alloc (Nat.le_refl _) _
  obtain ⟨W5, hW5⟩ : ∃ W5, w4.alloc (.cells (rC none 0 0 noSt) 38) = W5 := ⟨_, rfl⟩
  rw [hW5] at hra hba
  have hW5 : w4.alloc (.cells #[.string ⟨#[]⟩, .int .i64 0, .bool false, .int .i64 0, .int .i64 0, .int .i64 0, .int .u64 0, .int .i64 0, .int .i64 0, .int .i64 0, .int .i64 0, .string ⟨#[]⟩, .slice none 0 0, .int .i64 0, .int .i64 0, .int .i64 0, .int .i64 0, .int .i64 0, .int .i64 0, .bool false, .int .i64 0, .int .i64 0] 38) = W5 := hW5
  have i5 := hra.is
  have hlt5 := hra.lt
  have HG6 := Lib.hid (hra.row p n c G)
  have HB6 := Lib.hid (below_setRow hba (Nat.le_refl _) (rC p n c G))
  have hg4 : w4.heap.size = w4.heap.size := rfl
  clear hb4 H3 HTK hra hba
  go_upto_region 13 with fail
  generalize W5.setRow w4.heap.size (rC p n c G) = w6 at *
  clear i5 hlt5 hW5 hg4
  have x11 : w6.cell? ⟨w4.heap.size, 11, none⟩ = some (.string G.S) := HG6.out.cell 11
  have x12 : w6.cell? ⟨w4.heap.size, 12, none⟩ = some (.slice p n c) := HG6.out.cell 12
  have x13 : w6.cell? ⟨w4.heap.size, 13, none⟩ = some (.int .i64 G.last) := HG6.out.cell 13
  have x16 : w6.cell? ⟨w4.heap.size, 16, none⟩ = some (.int .i64 G.clock) := HG6.out.cell 16
  have hrow6 : gc.RowA w6 p n c G.A := by rw [HGA.out]; exact gc.rowA_on H4.out.row HB6.out
  have HROW6 := Lib.hid hrow6
  clear hrow6
  go_wp2_with fail
  clear x11 x12 x13 x16
  refine (HCT.out _ HROW6.out).mono ?_
  rintro e w7 ⟨p1, n1, c1, rfl, hrow7, hb7⟩
  obtain ⟨W8, hW8, hc8, hb8⟩ := cargo_alloc w7
  have hs9 := set3c_heap hc8 S2 p1 n1 c1 G.last
  have hb9 := set3c_below hb8 (Nat.le_refl _) S2 p1 n1 c1 G.last
  have HG9 := Lib.hid (HG6.out.on (gb.seqB hb7 hb9))
  have HB9 := Lib.hid (gb.seqB HB6.out (gb.seqB hb7 hb9))
  have HROW9 := Lib.hid (gc.rowA_on hrow7 hb9)
  have HC9 := Lib.hid hs9
  have z0 : W8.cell? ⟨w7.heap.size, 0, none⟩ = some (.string ⟨#[]⟩) := cell_of_row _ _ 0 _ _ _ hc8
  have z1 : W8.cell? ⟨w7.heap.size, 1, none⟩ = some (.slice none 0 0) := cell_of_row _ _ 1 _ _ _ hc8
  have z2 : W8.cell? ⟨w7.heap.size, 2, none⟩ = some (.int .i64 0) := cell_of_row _ _ 2 _ _ _ hc8
  have g0 : W8.frozen? ⟨w7.heap.size, 0, none⟩ = false := gb.frozen_at hc8
  have g1 : W8.frozen? ⟨w7.heap.size, 1, none⟩ = false := gb.frozen_at hc8
  have g2 : W8.frozen? ⟨w7.heap.size, 2, none⟩ = false := gb.frozen_at hc8
  have hlt8 := gb.blk_lt hc8
  clear hrow7 hb7 hc8 hs9 hb9 hb8 HG6 HB6 HROW6 HCT
  go_upto_region 14 with fail
  generalize hW9 : set3c W8 w7.heap.size S2 p1 n1 c1 G.last = w9 at *
  unfold set3c at hW9
  rw [hW9]
  clear hW9 z0 z1 z2 g0 g1 g2 hlt8 hW8
  generalize w7.heap.size = h9 at *
  have y0 : w9.cell? ⟨h9, 0, none⟩ = some (.string S2) := cell_of_row _ _ 0 _ _ _ HC9.out
  have y1 : w9.cell? ⟨h9, 1, none⟩ = some (.slice p1 n1 c1) := cell_of_row _ _ 1 _ _ _ HC9.out
  have y2 : w9.cell? ⟨h9, 2, none⟩ = some (.int .i64 G.last) := cell_of_row _ _ 2 _ _ _ HC9.out
  have u11 : w9.cell? ⟨w4.heap.size, 11, none⟩ = some (.string G.S) := HG9.out.cell 11
  have u12 : w9.cell? ⟨w4.heap.size, 12, none⟩ = some (.slice p n c) := HG9.out.cell 12
  have u13 : w9.cell? ⟨w4.heap.size, 13, none⟩ = some (.int .i64 G.last) := HG9.out.cell 13
  have v11 : w9.frozen? ⟨w4.heap.size, 11, none⟩ = false := HG9.out.frz 11
  have v12 : w9.frozen? ⟨w4.heap.size, 12, none⟩ = false := HG9.out.frz 12
  have v13 : w9.frozen? ⟨w4.heap.size, 13, none⟩ = false := HG9.out.frz 13
  have HGA2 := Lib.hid (HG9.out.putC S2 (G.A.drop K) p1 n1 c1 G.last)
  have HBA2 := Lib.hid (putC_below HB9.out (Nat.le_refl _) S2 p1 n1 c1 G.last)
  have HROWA2 := Lib.hid (show gc.RowA (putC w9 w4.heap.size S2 p1 n1 c1 G.last) p1 n1 c1 (G.A.drop K) from rowA_typed HROW9.out fun _ _ _ hb => putC_far (HG9.out.not_int hb) _ _ _ _ _)
  go_upto_region 15 with fail
  generalize hWA : putC w9 w4.heap.size S2 p1 n1 c1 G.last = wA at *
  unfold Go.Proofs.YtlbihcpglcdmmaaGreat.putC at hWA
  rw [hWA]
  clear hWA y0 y1 y2 u11 u12 u13 v11 v12 v13 HG9 HB9 HROW9 HC9
  have x18 : wA.cell? ⟨w4.heap.size, 18, none⟩ = some (.int .i64 G.passed) := HGA2.out.cell 18
  have f18 : wA.frozen? ⟨w4.heap.size, 18, none⟩ = false := HGA2.out.frz 18
  have HGB := Lib.hid (HGA2.out.set (i := 18) (v := .int .i64 (G.passed + (T.size : Int))) (s' := { G with S := S2, A := G.A.drop K, passed := G.passed + (T.size : Int) }) (p' := p1) (n' := n1) (c' := c1) rfl)
  have HBB := Lib.hid (HBA2.out.setCell (p := ⟨w4.heap.size, 18, none⟩) (Nat.le_refl _) (.int .i64 (G.passed + (T.size : Int))))
  have HROWB := Lib.hid (rowA_setC HROWA2.out HGA2.out 18 (.int .i64 (G.passed + (T.size : Int))))
  go_upto_region 16 with fail
  generalize wA.setCell ⟨w4.heap.size, 18, none⟩ (.int .i64 (G.passed + (T.size : Int))) = wB at *
  clear x18 f18 HGA2 HBA2 HROWA2 hw
  have HF := Lib.hid (H4.out.on HBB.out)
  have ig := HGB.out.is
  have kg := HGB.out.cells
  have hgg : w4.heap.size = w4.heap.size := rfl
  clear H4 hgg
  obtain ⟨⟨t0, t1, t2⟩, ⟨g0, g1, g2⟩, hz, hza, hzr, hzb⟩ := HF.out.fin (p' := p1) (n' := n1) (c' := c1) (s' := { G with S := S2, A := G.A.drop K, passed := G.passed + (T.size : Int) }) HROWB.out ⟨0, T, 0⟩
  have HZ := Lib.hid hz
  have HZA := Lib.hid hza
  have HZR := Lib.hid hzr
  have HZB := Lib.hid hzb
  have i1z := HF.out.q.is
  have k1z := HF.out.q.cells
  have i2z := HF.out.r.is
  have hltz := HF.out.lt
  clear hz hza hzr hzb
  go_wp2_with fail
  generalize hWf : finW wB (w.heap.size + 2) (w.heap.size + 3) (rC p1 n1 c1 { G with S := S2, A := G.A.drop K, passed := G.passed + (T.size : Int) }) ⟨0, T, 0⟩ = wz at *
  unfold finW at hWf
  dsimp only at hWf
  try rw [hWf]
  exact bodyPost_ret (v := .tuple #[.agg (rC p1 n1 c1 { G with S := S2, A := G.A.drop K, passed := G.passed + (T.size : Int) }), .agg #[.int .i64 0, .string T, .int .i64 0]]) (by simp [results, Tryz.results8, asAddr, loadVar_R HZ.out, loadVar_A HZA.out]) rfl ⟨p1, n1, c1, rfl, HZR.out, HZB.out⟩
end Go.Proofs.YtlbihcpglcdmmaaGreat

/-
  Contracts: take of the document. Conditions: as each states.
  Contract: take of the document. Conditions: as each states.
  Inside of a call of the document. Conditions: as each states.
  Contracts: bring of the document. Conditions: as each states.
  Contracts: Put of the document. Conditions: as each states.
-/
import Derived.Test.YtlbihcpglcdmmaaGreatZS
import Derived.Test.YtlbihcpglcdmmaaGreatZC
namespace Go.Proofs.YtlbihcpglcdmmaaGreat
open Go.RowKit

attribute [local go_sem ↓] to_loadR to_storeR
attribute [local go_sem] run_loadR run_storeR rval
variable {w w' : World} {q n c : Nat} {p : Option Addr} {s s' : St}
set_option maxRecDepth 100000 in
set_option maxHeartbeats 8000000 in
theorem rtake_4 (p : Option Addr) (n c : Nat) (s : St) (N : Int) (w : World) (hk : s.tx.k = 4) : Calls Tryz.prog 28 #[.agg (rC p n c s), .int .i64 N] w fun e w' => e = .returned (.tuple #[.agg (rC p n c s), .int .i64 0]) ∧ Below w.heap.size w w' := by
  obtain ⟨W0, hW0, hq, hr, hb⟩ := two_alloc p n c s w
  have hW0 : (w.alloc (.cells (rC p n c s) 38)).alloc (.cells #[.string ⟨#[]⟩, .int .i64 0, .bool false, .int .i64 0, .int .i64 0, .int .i64 0, .int .u64 0, .int .i64 0, .int .i64 0, .int .i64 0, .int .i64 0, .string ⟨#[]⟩, .slice none 0 0, .int .i64 0, .int .i64 0, .int .i64 0, .int .i64 0, .int .i64 0, .int .i64 0, .bool false, .int .i64 0, .int .i64 0] 38) = W0 := hW0
  have HB := Lib.hid hb
  have HQ := Lib.hid hq
  have HR := Lib.hid hr
  have hlt := hr.lt
  have x1 : W0.cell? ⟨w.heap.size, 1, none⟩ = some (.int .i64 s.tx.k) := hq.cell 1
  rw [hk] at x1
  clear hk
  clear hq hr hb
  go_enter Tryz.func28, Tryz.ntmps28
  go_upto_region 15 with fail
  clear hW0 hlt x1
  have i1 := HQ.out.is
  have k1 := HQ.out.cells
  have i2 := HR.out.is
  have hlt := HR.out.lt
  go_wp2_with fail
  have hz := HR.out.row p n c s
  have hb := below_setRow HB.out (Nat.le_succ w.heap.size) (rC p n c s)
  have HZ := Lib.hid hz
  have HE := Lib.hid hb
  clear hz hb
  generalize W0.setRow (w.heap.size + 1) (rC p n c s) = wz at *
  exact bodyPost_ret (v := .tuple #[.agg (rC p n c s), .int .i64 0]) (by simp [results, Tryz.results28, asAddr, loadVar_R HZ.out]) rfl ⟨rfl, HE.out⟩
set_option maxRecDepth 100000 in
set_option maxHeartbeats 8000000 in
theorem rtake_o (p : Option Addr) (n c : Nat) (s : St) (N : Int) (w : World) (h2 : s.tx.k ≠ 2) (h3 : s.tx.k ≠ 3) (h4 : s.tx.k ≠ 4) (h6 : s.tx.k ≠ 6) : Calls Tryz.prog 28 #[.agg (rC p n c s), .int .i64 N] w fun e w' => e = .returned (.tuple #[.agg (rC p n c s), .int .i64 N]) ∧ Below w.heap.size w w' := by
  obtain ⟨W0, hW0, hq, hr, hb⟩ := two_alloc p n c s w
  have hW0 : (w.alloc (.cells (rC p n c s) 38)).alloc (.cells #[.string ⟨#[]⟩, .int .i64 0, .bool false, .int .i64 0, .int .i64 0, .int .i64 0, .int .u64 0, .int .i64 0, .int .i64 0, .int .i64 0, .int .i64 0, .string ⟨#[]⟩, .slice none 0 0, .int .i64 0, .int .i64 0, .int .i64 0, .int .i64 0, .int .i64 0, .int .i64 0, .bool false, .int .i64 0, .int .i64 0] 38) = W0 := hW0
  have HB := Lib.hid hb
  have HQ := Lib.hid hq
  have HR := Lib.hid hr
  have hlt := hr.lt
  have x1 : W0.cell? ⟨w.heap.size, 1, none⟩ = some (.int .i64 s.tx.k) := hq.cell 1
  have e2 : (s.tx.k == 2) = false := by simpa using h2
  have d2 : decide (s.tx.k = 2) = false := by simpa using h2
  have e3 : (s.tx.k == 3) = false := by simpa using h3
  have d3 : decide (s.tx.k = 3) = false := by simpa using h3
  have e4 : (s.tx.k == 4) = false := by simpa using h4
  have d4 : decide (s.tx.k = 4) = false := by simpa using h4
  have e6 : (s.tx.k == 6) = false := by simpa using h6
  have d6 : decide (s.tx.k = 6) = false := by simpa using h6
  clear h2 h3 h4 h6
  clear hq hr hb
  go_enter Tryz.func28, Tryz.ntmps28
  go_upto_region 19 with fail
  clear hW0 hlt x1
  have i1 := HQ.out.is
  have k1 := HQ.out.cells
  have i2 := HR.out.is
  have hlt := HR.out.lt
  go_wp2_with fail
  have hz := HR.out.row p n c s
  have hb := below_setRow HB.out (Nat.le_succ w.heap.size) (rC p n c s)
  have HZ := Lib.hid hz
  have HE := Lib.hid hb
  clear hz hb
  generalize W0.setRow (w.heap.size + 1) (rC p n c s) = wz at *
  exact bodyPost_ret (v := .tuple #[.agg (rC p n c s), .int .i64 N]) (by simp [results, Tryz.results28, asAddr, loadVar_R HZ.out]) rfl ⟨rfl, HE.out⟩
set_option maxRecDepth 100000 in
set_option maxHeartbeats 8000000 in
theorem rtake_6b (p : Option Addr) (n c : Nat) (s : St) (N : Int) (w : World) (hk : s.tx.k = 6) (hw : IntKind.i64.wrap (s.tx.a - s.passed) = s.tx.a - s.passed) (hn : ¬ s.tx.a - s.passed < N) : Calls Tryz.prog 28 #[.agg (rC p n c s), .int .i64 N] w fun e w' => e = .returned (.tuple #[.agg (rC p n c s), .int .i64 N]) ∧ Below w.heap.size w w' := by
  obtain ⟨W0, hW0, hq, hr, hb⟩ := two_alloc p n c s w
  have hW0 : (w.alloc (.cells (rC p n c s) 38)).alloc (.cells #[.string ⟨#[]⟩, .int .i64 0, .bool false, .int .i64 0, .int .i64 0, .int .i64 0, .int .u64 0, .int .i64 0, .int .i64 0, .int .i64 0, .int .i64 0, .string ⟨#[]⟩, .slice none 0 0, .int .i64 0, .int .i64 0, .int .i64 0, .int .i64 0, .int .i64 0, .int .i64 0, .bool false, .int .i64 0, .int .i64 0] 38) = W0 := hW0
  have HB := Lib.hid hb
  have HQ := Lib.hid hq
  have HR := Lib.hid hr
  have hlt := hr.lt
  have x1 : W0.cell? ⟨w.heap.size, 1, none⟩ = some (.int .i64 s.tx.k) := hq.cell 1
  have x4 : W0.cell? ⟨w.heap.size, 4, none⟩ = some (.int .i64 s.tx.a) := hq.cell 4
  have x18 : W0.cell? ⟨w.heap.size, 18, none⟩ = some (.int .i64 s.passed) := hq.cell 18
  rw [hk] at x1
  have hd : decide (s.tx.a - s.passed < N) = false := by simpa using hn
  clear hk hn
  clear hq hr hb
  go_enter Tryz.func28, Tryz.ntmps28
  go_upto_region 19 with fail
  clear hW0 hlt x1 x4 x18 hd
  have i1 := HQ.out.is
  have k1 := HQ.out.cells
  have i2 := HR.out.is
  have hlt := HR.out.lt
  go_wp2_with fail
  have hz := HR.out.row p n c s
  have hb := below_setRow HB.out (Nat.le_succ w.heap.size) (rC p n c s)
  have HZ := Lib.hid hz
  have HE := Lib.hid hb
  clear hz hb
  generalize W0.setRow (w.heap.size + 1) (rC p n c s) = wz at *
  exact bodyPost_ret (v := .tuple #[.agg (rC p n c s), .int .i64 N]) (by simp [results, Tryz.results28, asAddr, loadVar_R HZ.out]) rfl ⟨rfl, HE.out⟩
set_option maxRecDepth 100000 in
set_option maxHeartbeats 8000000 in
theorem rtake_3w (p : Option Addr) (n c : Nat) (s : St) (N : Int) (w : World) (hk : s.tx.k = 3) (hn : N = 0 ∨ s.clock < s.pause) : Calls Tryz.prog 28 #[.agg (rC p n c s), .int .i64 N] w fun e w' => e = .returned (.tuple #[.agg (rC p n c s), .int .i64 0]) ∧ Below w.heap.size w w' := by
  obtain ⟨W0, hW0, hq, hr, hb⟩ := two_alloc p n c s w
  have hW0 : (w.alloc (.cells (rC p n c s) 38)).alloc (.cells #[.string ⟨#[]⟩, .int .i64 0, .bool false, .int .i64 0, .int .i64 0, .int .i64 0, .int .u64 0, .int .i64 0, .int .i64 0, .int .i64 0, .int .i64 0, .string ⟨#[]⟩, .slice none 0 0, .int .i64 0, .int .i64 0, .int .i64 0, .int .i64 0, .int .i64 0, .int .i64 0, .bool false, .int .i64 0, .int .i64 0] 38) = W0 := hW0
  have HB := Lib.hid hb
  have HQ := Lib.hid hq
  have HR := Lib.hid hr
  have hlt := hr.lt
  have x1 : W0.cell? ⟨w.heap.size, 1, none⟩ = some (.int .i64 s.tx.k) := hq.cell 1
  have x16 : W0.cell? ⟨w.heap.size, 16, none⟩ = some (.int .i64 s.clock) := hq.cell 16
  have x17 : W0.cell? ⟨w.heap.size, 17, none⟩ = some (.int .i64 s.pause) := hq.cell 17
  rw [hk] at x1
  have HN := Lib.hid hn
  clear hk hn
  clear hq hr hb
  go_enter Tryz.func28, Tryz.ntmps28
  by_cases hn0 : N = 0
  · have d0 : (N == 0) = true := by simpa using hn0
    have d1 : decide (N = 0) = true := by simpa using hn0
    clear hn0
    go_upto_region 8 with fail
    clear hW0 hlt x1 x16 x17 d0 d1
    have i1 := HQ.out.is
    have k1 := HQ.out.cells
    have i2 := HR.out.is
    have hlt := HR.out.lt
    go_wp2_with fail
    have hz := HR.out.row p n c s
    have hb := below_setRow HB.out (Nat.le_succ w.heap.size) (rC p n c s)
    have HZ := Lib.hid hz
    have HE := Lib.hid hb
    clear hz hb
    generalize W0.setRow (w.heap.size + 1) (rC p n c s) = wz at *
    exact bodyPost_ret (v := .tuple #[.agg (rC p n c s), .int .i64 0]) (by simp [results, Tryz.results28, asAddr, loadVar_R HZ.out]) rfl ⟨rfl, HE.out⟩
  · have hp : s.clock < s.pause := HN.out.resolve_left hn0
    have d0 : (N == 0) = false := by simpa using hn0
    have d1 : decide (N = 0) = false := by simpa using hn0
    have d2 : decide (s.clock < s.pause) = true := by simpa using hp
    clear hn0 hp
    go_upto_region 8 with fail
    clear hW0 hlt x1 x16 x17 d0 d1 d2
    have i1 := HQ.out.is
    have k1 := HQ.out.cells
    have i2 := HR.out.is
    have hlt := HR.out.lt
    go_wp2_with fail
    have hz := HR.out.row p n c s
    have hb := below_setRow HB.out (Nat.le_succ w.heap.size) (rC p n c s)
    have HZ := Lib.hid hz
    have HE := Lib.hid hb
    clear hz hb
    generalize W0.setRow (w.heap.size + 1) (rC p n c s) = wz at *
    exact bodyPost_ret (v := .tuple #[.agg (rC p n c s), .int .i64 0]) (by simp [results, Tryz.results28, asAddr, loadVar_R HZ.out]) rfl ⟨rfl, HE.out⟩
set_option maxRecDepth 100000 in
set_option maxHeartbeats 8000000 in
theorem rtake_6a (p : Option Addr) (n c : Nat) (s : St) (N : Int) (w : World) (hk : s.tx.k = 6) (hw : IntKind.i64.wrap (s.tx.a - s.passed) = s.tx.a - s.passed) (hn : s.tx.a - s.passed < N) : Calls Tryz.prog 28 #[.agg (rC p n c s), .int .i64 N] w fun e w' => e = .returned (.tuple #[.agg (rC p n c s), .int .i64 (s.tx.a - s.passed)]) ∧ Below w.heap.size w w' := by
  obtain ⟨W0, hW0, hq, hr, hb⟩ := two_alloc p n c s w
  have hW0 : (w.alloc (.cells (rC p n c s) 38)).alloc (.cells #[.string ⟨#[]⟩, .int .i64 0, .bool false, .int .i64 0, .int .i64 0, .int .i64 0, .int .u64 0, .int .i64 0, .int .i64 0, .int .i64 0, .int .i64 0, .string ⟨#[]⟩, .slice none 0 0, .int .i64 0, .int .i64 0, .int .i64 0, .int .i64 0, .int .i64 0, .int .i64 0, .bool false, .int .i64 0, .int .i64 0] 38) = W0 := hW0
  have HB := Lib.hid hb
  have HQ := Lib.hid hq
  have HR := Lib.hid hr
  have hlt := hr.lt
  have x1 : W0.cell? ⟨w.heap.size, 1, none⟩ = some (.int .i64 s.tx.k) := hq.cell 1
  have x4 : W0.cell? ⟨w.heap.size, 4, none⟩ = some (.int .i64 s.tx.a) := hq.cell 4
  have x18 : W0.cell? ⟨w.heap.size, 18, none⟩ = some (.int .i64 s.passed) := hq.cell 18
  rw [hk] at x1
  have hd : decide (s.tx.a - s.passed < N) = true := by simpa using hn
  have i1 := HQ.out.is
  have k1 := HQ.out.cells
  have i2 := HR.out.is
  have j1 := HQ.out.drew.is
  have l1 := HQ.out.drew.cells
  have j2 := HR.out.drew.is
  clear hk hn
  clear hq hr hb
  go_enter Tryz.func28, Tryz.ntmps28
  go_wp2_with fail
  clear hW0
  have hqf := HQ.out.farRow (g := w.heap.size + 1) (rC p n c s) (Nat.ne_of_lt (Nat.lt_succ_self _))
  have y4 : (W0.setRow (w.heap.size + 1) (rC p n c s)).cell? ⟨w.heap.size, 4, none⟩ = some (.int .i64 s.tx.a) := hqf.cell 4
  have y18 : (W0.setRow (w.heap.size + 1) (rC p n c s)).cell? ⟨w.heap.size, 18, none⟩ = some (.int .i64 s.passed) := hqf.cell 18
  have z4 : (W0.drew.setRow (w.heap.size + 1) (rC p n c s)).cell? ⟨w.heap.size, 4, none⟩ = some (.int .i64 s.tx.a) := hqf.cell 4
  have z18 : (W0.drew.setRow (w.heap.size + 1) (rC p n c s)).cell? ⟨w.heap.size, 18, none⟩ = some (.int .i64 s.passed) := hqf.cell 18
  have HZ := Lib.hid (show RAt (W0.drew.setRow (w.heap.size + 1) (rC p n c s)) (w.heap.size + 1) p n c s from HR.out.drew.row p n c s)
  have HE := Lib.hid (show Below w.heap.size w (W0.drew.setRow (w.heap.size + 1) (rC p n c s)) from below_setRow HB.out.drew (Nat.le_succ w.heap.size) (rC p n c s))
  clear hqf
  go_region_law
    (first
      | fail)
  all_goals (
    go_wp2_with fail
    generalize W0.drew.setRow (w.heap.size + 1) (rC p n c s) = wz at *
    exact bodyPost_ret (v := .tuple #[.agg (rC p n c s), .int .i64 (s.tx.a - s.passed)]) (by simp [results, Tryz.results28, asAddr, Act.put, loadVar_R HZ.out]) rfl ⟨rfl, HE.out⟩)
end Go.Proofs.YtlbihcpglcdmmaaGreat
namespace Go.Proofs.YtlbihcpglcdmmaaGreat
open Go.RowKit

attribute [local go_sem ↓] to_loadR to_storeR
attribute [local go_sem] run_loadR run_storeR rval
variable {w w' : World} {q n c : Nat} {p : Option Addr} {s s' : St}
/-- A bucket is stored into a stage. -/
def putB (w : World) (q : Nat) (k : Bkt) : World := (((w.setCell ⟨q, 7, none⟩ (.int .i64 k.r)).setCell ⟨q, 8, none⟩ (.int .i64 k.u)).setCell ⟨q, 9, none⟩ (.int .i64 k.l)).setCell ⟨q, 10, none⟩ (.int .i64 k.t)
theorem RAt.putB (h : RAt w q p n c s) (k : Bkt) : RAt (putB w q k) q p n c { s with bk := k } :=
  (((h.set (i := 7) (s' := { s with bk := ⟨k.r, s.bk.u, s.bk.l, s.bk.t⟩ }) (p' := p) (n' := n) (c' := c) rfl).set (i := 8) (s' := { s with bk := ⟨k.r, k.u, s.bk.l, s.bk.t⟩ }) (p' := p) (n' := n) (c' := c) rfl).set (i := 9) (s' := { s with bk := ⟨k.r, k.u, k.l, s.bk.t⟩ }) (p' := p) (n' := n) (c' := c) rfl).set (i := 10) rfl
theorem putB_far {i : Nat} (hi : i ≠ q) (k : Bkt) : (putB w q k).heap[i]? = w.heap[i]? := by
  unfold Go.Proofs.YtlbihcpglcdmmaaGreat.putB
  rw [Below.heap_setCell _ _ _ _ hi, Below.heap_setCell _ _ _ _ hi, Below.heap_setCell _ _ _ _ hi, Below.heap_setCell _ _ _ _ hi]
theorem putB_below {B : Nat} {w0 : World} (h : Below B w0 w) (hg : B ≤ q) (k : Bkt) : Below B w0 (putB w q k) := (((h.setCell (p := ⟨q, 7, none⟩) hg _).setCell (p := ⟨q, 8, none⟩) hg _).setCell (p := ⟨q, 9, none⟩) hg _).setCell (p := ⟨q, 10, none⟩) hg _
set_option maxRecDepth 100000 in
set_option maxHeartbeats 8000000 in
theorem rtake_2 (p : Option Addr) (n c : Nat) (s : St) (N : Int) (w : World) (hk : s.tx.k = 2) (hr : gb.rightB s.bk.r s.bk.u s.bk.l s.bk.t = true) {L T K V : Int} (hL : gb.fillL s.bk.r s.bk.u s.bk.l s.bk.t s.clock = L) (hT : gb.fillT s.bk.r s.bk.u s.bk.l s.bk.t s.clock = T) (hK : gb.takeB L N = K) (hV : L - K = V) : Calls Tryz.prog 28 #[.agg (rC p n c s), .int .i64 N] w fun e w' => e = .returned (.tuple #[.agg (rC p n c { s with bk := ⟨s.bk.r, s.bk.u, V, T⟩ }), .int .i64 K]) ∧ Below w.heap.size w w' := by
  have HTK := Lib.hid (fun W => gb.rtake_yes hr s.clock N hL hT hK hV W)
  obtain ⟨W0, hW0, hq, hr2, hb⟩ := two_alloc p n c s w
  have hW0 : (w.alloc (.cells (rC p n c s) 38)).alloc (.cells #[.string ⟨#[]⟩, .int .i64 0, .bool false, .int .i64 0, .int .i64 0, .int .i64 0, .int .u64 0, .int .i64 0, .int .i64 0, .int .i64 0, .int .i64 0, .string ⟨#[]⟩, .slice none 0 0, .int .i64 0, .int .i64 0, .int .i64 0, .int .i64 0, .int .i64 0, .int .i64 0, .bool false, .int .i64 0, .int .i64 0] 38) = W0 := hW0
  have HB := Lib.hid hb
  have HQ := Lib.hid hq
  have HR := Lib.hid hr2
  have hlt := hr2.lt
  have x1 : W0.cell? ⟨w.heap.size, 1, none⟩ = some (.int .i64 s.tx.k) := hq.cell 1
  have x7 : W0.cell? ⟨w.heap.size, 7, none⟩ = some (.int .i64 s.bk.r) := hq.cell 7
  have x8 : W0.cell? ⟨w.heap.size, 8, none⟩ = some (.int .i64 s.bk.u) := hq.cell 8
  have x9 : W0.cell? ⟨w.heap.size, 9, none⟩ = some (.int .i64 s.bk.l) := hq.cell 9
  have x10 : W0.cell? ⟨w.heap.size, 10, none⟩ = some (.int .i64 s.bk.t) := hq.cell 10
  have x16 : W0.cell? ⟨w.heap.size, 16, none⟩ = some (.int .i64 s.clock) := hq.cell 16
  rw [hk] at x1
  clear hk hr hL hT hK hV
  clear hq hr2 hb
  go_enter Tryz.func28, Tryz.ntmps28
  go_wp2_with fail
  clear hW0 x1 x7 x8 x9 x10 x16 hlt
  refine (HTK.out _).mono ?_
  rintro e w1 ⟨rfl, hb1⟩
  have hal : Below w1.heap.size w1 (w1.alloc (.cells #[.int .i64 0, .int .i64 0, .int .i64 0, .int .i64 0] 33)) := (Below.refl _ _).alloc (Nat.le_refl _) _
  have hbl := heap_alloc_new w1 (.cells #[.int .i64 0, .int .i64 0, .int .i64 0, .int .i64 0] 33)
  obtain ⟨W2, hW2⟩ : ∃ W2, w1.alloc (.cells #[.int .i64 0, .int .i64 0, .int .i64 0, .int .i64 0] 33) = W2 := ⟨_, rfl⟩
  rw [hW2] at hal hbl
  have hst := gb.set4_below (w := W2) hal (Nat.le_refl _) (.int .i64 s.bk.r) (.int .i64 s.bk.u) (.int .i64 V) (.int .i64 T)
  have hs4 := gb.set4_heap hbl (.int .i64 s.bk.r) (.int .i64 s.bk.u) (.int .i64 V) (.int .i64 T)
  have z0 : W2.cell? ⟨w1.heap.size, 0, none⟩ = some (.int .i64 0) := cell_of_row _ _ 0 _ _ _ hbl
  have z1 : W2.cell? ⟨w1.heap.size, 1, none⟩ = some (.int .i64 0) := cell_of_row _ _ 1 _ _ _ hbl
  have z2 : W2.cell? ⟨w1.heap.size, 2, none⟩ = some (.int .i64 0) := cell_of_row _ _ 2 _ _ _ hbl
  have z3 : W2.cell? ⟨w1.heap.size, 3, none⟩ = some (.int .i64 0) := cell_of_row _ _ 3 _ _ _ hbl
  have g0 : W2.frozen? ⟨w1.heap.size, 0, none⟩ = false := gb.frozen_at hbl
  have g1 : W2.frozen? ⟨w1.heap.size, 1, none⟩ = false := gb.frozen_at hbl
  have g2 : W2.frozen? ⟨w1.heap.size, 2, none⟩ = false := gb.frozen_at hbl
  have g3 : W2.frozen? ⟨w1.heap.size, 3, none⟩ = false := gb.frozen_at hbl
  have hlt2 := gb.blk_lt hbl
  have HQ3 := Lib.hid (HQ.out.on (gb.seqB hb1 hst))
  have HR3 := Lib.hid (HR.out.on (gb.seqB hb1 hst))
  have HB3 := Lib.hid (gb.seqB HB.out (gb.seqB hb1 hst))
  have HC3 := Lib.hid hs4
  clear hb1 hal hbl hst hs4 HTK
  go_upto_region 4 with fail
  generalize hW3 : gb.set4 W2 w1.heap.size (.int .i64 s.bk.r) (.int .i64 s.bk.u) (.int .i64 V) (.int .i64 T) = w3 at *
  unfold gb.set4 at hW3
  rw [hW3]
  clear hW3 z0 z1 z2 z3 g0 g1 g2 g3 hlt2 hW2
  generalize w1.heap.size = g at *
  have y0 : w3.cell? ⟨g, 0, none⟩ = some (.int .i64 s.bk.r) := cell_of_row _ _ 0 _ _ _ HC3.out
  have y1 : w3.cell? ⟨g, 1, none⟩ = some (.int .i64 s.bk.u) := cell_of_row _ _ 1 _ _ _ HC3.out
  have y2 : w3.cell? ⟨g, 2, none⟩ = some (.int .i64 V) := cell_of_row _ _ 2 _ _ _ HC3.out
  have y3 : w3.cell? ⟨g, 3, none⟩ = some (.int .i64 T) := cell_of_row _ _ 3 _ _ _ HC3.out
  have u7 : w3.cell? ⟨w.heap.size, 7, none⟩ = some (.int .i64 s.bk.r) := HQ3.out.cell 7
  have u8 : w3.cell? ⟨w.heap.size, 8, none⟩ = some (.int .i64 s.bk.u) := HQ3.out.cell 8
  have u9 : w3.cell? ⟨w.heap.size, 9, none⟩ = some (.int .i64 s.bk.l) := HQ3.out.cell 9
  have u10 : w3.cell? ⟨w.heap.size, 10, none⟩ = some (.int .i64 s.bk.t) := HQ3.out.cell 10
  have v7 := HQ3.out.frz 7
  have v8 := HQ3.out.frz 8
  have v9 := HQ3.out.frz 9
  have v10 := HQ3.out.frz 10
  have HQ4 := Lib.hid (HQ3.out.putB ⟨s.bk.r, s.bk.u, V, T⟩)
  have HR4 := Lib.hid (show RAt (putB w3 w.heap.size ⟨s.bk.r, s.bk.u, V, T⟩) (w.heap.size + 1) none 0 0 noSt from (putB_far (Nat.succ_ne_self _) _).trans HR3.out)
  have HB4 := Lib.hid (putB_below HB3.out (Nat.le_refl _) ⟨s.bk.r, s.bk.u, V, T⟩)
  go_upto_region 5 with fail
  generalize hW4 : putB w3 w.heap.size ⟨s.bk.r, s.bk.u, V, T⟩ = w4 at *
  unfold Go.Proofs.YtlbihcpglcdmmaaGreat.putB at hW4
  dsimp only at hW4
  rw [hW4]
  clear hW4 y0 y1 y2 y3 u7 u8 u9 u10 v7 v8 v9 v10 HQ3 HR3 HB3 HC3
  have i1 := HQ4.out.is
  have k1 := HQ4.out.cells
  have i2 := HR4.out.is
  have hlt := HR4.out.lt
  go_wp2_with fail
  have hz := HR4.out.row p n c { s with bk := ⟨s.bk.r, s.bk.u, V, T⟩ }
  have hb := below_setRow HB4.out (Nat.le_succ w.heap.size) (rC p n c { s with bk := ⟨s.bk.r, s.bk.u, V, T⟩ })
  have HZ := Lib.hid hz
  have HE := Lib.hid hb
  clear hz hb
  generalize w4.setRow (w.heap.size + 1) (rC p n c { s with bk := ⟨s.bk.r, s.bk.u, V, T⟩ }) = wz at *
  exact bodyPost_ret (v := .tuple #[.agg (rC p n c { s with bk := ⟨s.bk.r, s.bk.u, V, T⟩ }), .int .i64 K]) (by simp [results, Tryz.results28, asAddr, loadVar_R HZ.out]) rfl ⟨rfl, HE.out⟩
set_option maxRecDepth 100000 in
set_option maxHeartbeats 8000000 in
theorem rtake_3a (p : Option Addr) (n c : Nat) (s : St) (N : Int) (w : World) (hk : s.tx.k = 3) (h0 : N ≠ 0) (hp : ¬ s.clock < s.pause) (ha : 1 ≤ s.tx.a ∧ s.tx.a ≤ 4096) {D P V : Int} (hD : gd.stepZ s.d = D) (hP : addT s.clock s.tx.b = P) (hV : gd.takeZ s.d s.tx.a = V) (hn : V + 1 < N) : Calls Tryz.prog 28 #[.agg (rC p n c s), .int .i64 N] w fun e w' => e = .returned (.tuple #[.agg (rC p n c { s with d := D, pause := P }), .int .i64 (V + 1)]) ∧ Below w.heap.size w w' := by
  have hv := gd.takeZ_range s.d s.tx.a ha.1
  rw [hV] at hv
  have hw : IntKind.i64.wrap (V + 1) = V + 1 := by rw [IntKind.wrap_i64]; omega
  have HBL := Lib.hid (fun W => show Calls Tryz.prog 55 #[.int .u64 s.d, .int .i64 s.tx.a] W fun e w' => e = .returned (.tuple #[.int .i64 V, .int .u64 D]) ∧ Below W.heap.size W w' from by rw [← hD, ← hV]; exact gd.rbelow_any s.d s.tx.a ha.1 (by omega) W)
  have HAD := Lib.hid (fun W => show Calls Tryz.prog 52 #[.int .i64 s.clock, .int .i64 s.tx.b] W fun e w' => e = .returned (.int .i64 P) ∧ W = w' from by rw [← hP]; exact gb.radd_any s.clock s.tx.b W)
  have d0 : (N == 0) = false := by simpa using h0
  have d1 : decide (N = 0) = false := by simpa using h0
  have d2 : decide (s.clock < s.pause) = false := by simpa using hp
  have d3 : decide (V + 1 < N) = true := by simpa using hn
  obtain ⟨W0, hW0, hq, hr, hb⟩ := two_alloc p n c s w
  have hW0 : (w.alloc (.cells (rC p n c s) 38)).alloc (.cells #[.string ⟨#[]⟩, .int .i64 0, .bool false, .int .i64 0, .int .i64 0, .int .i64 0, .int .u64 0, .int .i64 0, .int .i64 0, .int .i64 0, .int .i64 0, .string ⟨#[]⟩, .slice none 0 0, .int .i64 0, .int .i64 0, .int .i64 0, .int .i64 0, .int .i64 0, .int .i64 0, .bool false, .int .i64 0, .int .i64 0] 38) = W0 := hW0
  have HB := Lib.hid hb
  have HQ := Lib.hid hq
  have HR := Lib.hid hr
  have hlt := hr.lt
  have x1 : W0.cell? ⟨w.heap.size, 1, none⟩ = some (.int .i64 s.tx.k) := hq.cell 1
  have x16 : W0.cell? ⟨w.heap.size, 16, none⟩ = some (.int .i64 s.clock) := hq.cell 16
  have x17 : W0.cell? ⟨w.heap.size, 17, none⟩ = some (.int .i64 s.pause) := hq.cell 17
  have x6 : W0.cell? ⟨w.heap.size, 6, none⟩ = some (.int .u64 s.d) := hq.cell 6
  have x4 : W0.cell? ⟨w.heap.size, 4, none⟩ = some (.int .i64 s.tx.a) := hq.cell 4
  rw [hk] at x1
  clear hk h0 hp ha hD hP hV hn hv
  clear hq hr hb
  go_enter Tryz.func28, Tryz.ntmps28
  go_wp2_with fail
  clear hW0 hlt x1 x16 x17 x6 x4 d0 d1 d2
  refine (HBL.out _).mono ?_
  rintro e w1 ⟨rfl, hb1⟩
  have HQ1 := Lib.hid (HQ.out.on hb1)
  have HR1 := Lib.hid (HR.out.on hb1)
  have HB1 := Lib.hid (gb.seqB HB.out hb1)
  have x6 : w1.cell? ⟨w.heap.size, 6, none⟩ = some (.int .u64 s.d) := HQ1.out.cell 6
  have f6 : w1.frozen? ⟨w.heap.size, 6, none⟩ = false := HQ1.out.frz 6
  clear hb1 HQ HR HB HBL
  have HQ2 := Lib.hid (HQ1.out.set (i := 6) (v := .int .u64 D) (s' := { s with d := D }) (p' := p) (n' := n) (c' := c) rfl)
  have HR2 := Lib.hid (HR1.out.far (g := w.heap.size) (i := 6) (.int .u64 D) (Nat.succ_ne_self _))
  have HB2 := Lib.hid (HB1.out.setCell (p := ⟨w.heap.size, 6, none⟩) (Nat.le_refl _) (.int .u64 D))
  go_upto_region 11 with fail
  generalize w1.setCell ⟨w.heap.size, 6, none⟩ (.int .u64 D) = w2 at *
  clear x6 f6 HQ1 HR1 HB1
  have x16 : w2.cell? ⟨w.heap.size, 16, none⟩ = some (.int .i64 s.clock) := HQ2.out.cell 16
  have x5 : w2.cell? ⟨w.heap.size, 5, none⟩ = some (.int .i64 s.tx.b) := HQ2.out.cell 5
  go_wp2_with fail
  refine (HAD.out _).mono ?_
  rintro e w3 ⟨rfl, rfl⟩
  have x17 : w2.cell? ⟨w.heap.size, 17, none⟩ = some (.int .i64 s.pause) := HQ2.out.cell 17
  have f17 : w2.frozen? ⟨w.heap.size, 17, none⟩ = false := HQ2.out.frz 17
  have HQ3 := Lib.hid (HQ2.out.set (i := 17) (v := .int .i64 P) (s' := { s with d := D, pause := P }) (p' := p) (n' := n) (c' := c) rfl)
  have HR3 := Lib.hid (HR2.out.far (g := w.heap.size) (i := 17) (.int .i64 P) (Nat.succ_ne_self _))
  have HB3 := Lib.hid (HB2.out.setCell (p := ⟨w.heap.size, 17, none⟩) (Nat.le_refl _) (.int .i64 P))
  go_upto_region 12 with fail
  generalize w2.setCell ⟨w.heap.size, 17, none⟩ (.int .i64 P) = w4 at *
  clear x16 x5 x17 f17 HQ2 HR2 HB2 HAD
  have i1 := HQ3.out.is
  have k1 := HQ3.out.cells
  have i2 := HR3.out.is
  have hlt := HR3.out.lt
  go_wp2_with fail
  have hz := HR3.out.row p n c { s with d := D, pause := P }
  have hb := below_setRow HB3.out (Nat.le_succ w.heap.size) (rC p n c { s with d := D, pause := P })
  have HZ := Lib.hid hz
  have HE := Lib.hid hb
  clear hz hb
  generalize w4.setRow (w.heap.size + 1) (rC p n c { s with d := D, pause := P }) = wz at *
  exact bodyPost_ret (v := .tuple #[.agg (rC p n c { s with d := D, pause := P }), .int .i64 (V + 1)]) (by simp [results, Tryz.results28, asAddr, loadVar_R HZ.out]) rfl ⟨rfl, HE.out⟩
set_option maxRecDepth 100000 in
set_option maxHeartbeats 8000000 in
theorem rtake_3b (p : Option Addr) (n c : Nat) (s : St) (N : Int) (w : World) (hk : s.tx.k = 3) (h0 : N ≠ 0) (hp : ¬ s.clock < s.pause) (ha : 1 ≤ s.tx.a ∧ s.tx.a ≤ 4096) {D P V : Int} (hD : gd.stepZ s.d = D) (hP : addT s.clock s.tx.b = P) (hV : gd.takeZ s.d s.tx.a = V) (hn : ¬ V + 1 < N) : Calls Tryz.prog 28 #[.agg (rC p n c s), .int .i64 N] w fun e w' => e = .returned (.tuple #[.agg (rC p n c { s with d := D, pause := P }), .int .i64 N]) ∧ Below w.heap.size w w' := by
  have hv := gd.takeZ_range s.d s.tx.a ha.1
  rw [hV] at hv
  have hw : IntKind.i64.wrap (V + 1) = V + 1 := by rw [IntKind.wrap_i64]; omega
  have HBL := Lib.hid (fun W => show Calls Tryz.prog 55 #[.int .u64 s.d, .int .i64 s.tx.a] W fun e w' => e = .returned (.tuple #[.int .i64 V, .int .u64 D]) ∧ Below W.heap.size W w' from by rw [← hD, ← hV]; exact gd.rbelow_any s.d s.tx.a ha.1 (by omega) W)
  have HAD := Lib.hid (fun W => show Calls Tryz.prog 52 #[.int .i64 s.clock, .int .i64 s.tx.b] W fun e w' => e = .returned (.int .i64 P) ∧ W = w' from by rw [← hP]; exact gb.radd_any s.clock s.tx.b W)
  have d0 : (N == 0) = false := by simpa using h0
  have d1 : decide (N = 0) = false := by simpa using h0
  have d2 : decide (s.clock < s.pause) = false := by simpa using hp
  have d3 : decide (V + 1 < N) = false := by simpa using hn
  obtain ⟨W0, hW0, hq, hr, hb⟩ := two_alloc p n c s w
  have hW0 : (w.alloc (.cells (rC p n c s) 38)).alloc (.cells #[.string ⟨#[]⟩, .int .i64 0, .bool false, .int .i64 0, .int .i64 0, .int .i64 0, .int .u64 0, .int .i64 0, .int .i64 0, .int .i64 0, .int .i64 0, .string ⟨#[]⟩, .slice none 0 0, .int .i64 0, .int .i64 0, .int .i64 0, .int .i64 0, .int .i64 0, .int .i64 0, .bool false, .int .i64 0, .int .i64 0] 38) = W0 := hW0
  have HB := Lib.hid hb
  have HQ := Lib.hid hq
  have HR := Lib.hid hr
  have hlt := hr.lt
  have x1 : W0.cell? ⟨w.heap.size, 1, none⟩ = some (.int .i64 s.tx.k) := hq.cell 1
  have x16 : W0.cell? ⟨w.heap.size, 16, none⟩ = some (.int .i64 s.clock) := hq.cell 16
  have x17 : W0.cell? ⟨w.heap.size, 17, none⟩ = some (.int .i64 s.pause) := hq.cell 17
  have x6 : W0.cell? ⟨w.heap.size, 6, none⟩ = some (.int .u64 s.d) := hq.cell 6
  have x4 : W0.cell? ⟨w.heap.size, 4, none⟩ = some (.int .i64 s.tx.a) := hq.cell 4
  rw [hk] at x1
  clear hk h0 hp ha hD hP hV hn hv
  clear hq hr hb
  go_enter Tryz.func28, Tryz.ntmps28
  go_wp2_with fail
  clear hW0 hlt x1 x16 x17 x6 x4 d0 d1 d2
  refine (HBL.out _).mono ?_
  rintro e w1 ⟨rfl, hb1⟩
  have HQ1 := Lib.hid (HQ.out.on hb1)
  have HR1 := Lib.hid (HR.out.on hb1)
  have HB1 := Lib.hid (gb.seqB HB.out hb1)
  have x6 : w1.cell? ⟨w.heap.size, 6, none⟩ = some (.int .u64 s.d) := HQ1.out.cell 6
  have f6 : w1.frozen? ⟨w.heap.size, 6, none⟩ = false := HQ1.out.frz 6
  clear hb1 HQ HR HB HBL
  have HQ2 := Lib.hid (HQ1.out.set (i := 6) (v := .int .u64 D) (s' := { s with d := D }) (p' := p) (n' := n) (c' := c) rfl)
  have HR2 := Lib.hid (HR1.out.far (g := w.heap.size) (i := 6) (.int .u64 D) (Nat.succ_ne_self _))
  have HB2 := Lib.hid (HB1.out.setCell (p := ⟨w.heap.size, 6, none⟩) (Nat.le_refl _) (.int .u64 D))
  go_upto_region 11 with fail
  generalize w1.setCell ⟨w.heap.size, 6, none⟩ (.int .u64 D) = w2 at *
  clear x6 f6 HQ1 HR1 HB1
  have x16 : w2.cell? ⟨w.heap.size, 16, none⟩ = some (.int .i64 s.clock) := HQ2.out.cell 16
  have x5 : w2.cell? ⟨w.heap.size, 5, none⟩ = some (.int .i64 s.tx.b) := HQ2.out.cell 5
  go_wp2_with fail
  refine (HAD.out _).mono ?_
  rintro e w3 ⟨rfl, rfl⟩
  have x17 : w2.cell? ⟨w.heap.size, 17, none⟩ = some (.int .i64 s.pause) := HQ2.out.cell 17
  have f17 : w2.frozen? ⟨w.heap.size, 17, none⟩ = false := HQ2.out.frz 17
  have HQ3 := Lib.hid (HQ2.out.set (i := 17) (v := .int .i64 P) (s' := { s with d := D, pause := P }) (p' := p) (n' := n) (c' := c) rfl)
  have HR3 := Lib.hid (HR2.out.far (g := w.heap.size) (i := 17) (.int .i64 P) (Nat.succ_ne_self _))
  have HB3 := Lib.hid (HB2.out.setCell (p := ⟨w.heap.size, 17, none⟩) (Nat.le_refl _) (.int .i64 P))
  go_upto_region 12 with fail
  generalize w2.setCell ⟨w.heap.size, 17, none⟩ (.int .i64 P) = w4 at *
  clear x16 x5 x17 f17 HQ2 HR2 HB2 HAD
  have i1 := HQ3.out.is
  have k1 := HQ3.out.cells
  have i2 := HR3.out.is
  have hlt := HR3.out.lt
  go_wp2_with fail
  have hz := HR3.out.row p n c { s with d := D, pause := P }
  have hb := below_setRow HB3.out (Nat.le_succ w.heap.size) (rC p n c { s with d := D, pause := P })
  have HZ := Lib.hid hz
  have HE := Lib.hid hb
  clear hz hb
  generalize w4.setRow (w.heap.size + 1) (rC p n c { s with d := D, pause := P }) = wz at *
  exact bodyPost_ret (v := .tuple #[.agg (rC p n c { s with d := D, pause := P }), .int .i64 N]) (by simp [results, Tryz.results28, asAddr, loadVar_R HZ.out]) rfl ⟨rfl, HE.out⟩
theorem rtake_any (p : Option Addr) (n c : Nat) (s : St) (N : Int) (w : World) {M : Nat} (ho : Ok s M) : Calls Tryz.prog 28 #[.agg (rC p n c s), .int .i64 N] w fun e w' => e = .returned (.tuple #[.agg (rC p n c (giveS s N).1), .int .i64 (giveS s N).2]) ∧ Below w.heap.size w w' := by
  have hab := ho.ab
  have hps := ho.passed
  have htp := ho.top
  unfold giveS
  by_cases h2 : s.tx.k = 2
  · rw [if_pos h2]
    exact rtake_2 p n c s N w h2 (ho.bk h2) rfl rfl rfl rfl
  · rw [if_neg h2]
    by_cases h3 : s.tx.k = 3
    · rw [if_pos h3]
      by_cases h0 : N = 0 ∨ s.clock < s.pause
      · rw [if_pos h0]
        exact rtake_3w p n c s N w h3 h0
      · rw [if_neg h0]
        by_cases hn : gd.takeZ s.d s.tx.a + 1 < N
        · rw [if_pos hn]
          exact rtake_3a p n c s N w h3 (fun h => h0 (Or.inl h)) (fun h => h0 (Or.inr h)) (hab.2.2.2.2 h3) rfl rfl rfl hn
        · rw [if_neg hn]
          exact rtake_3b p n c s N w h3 (fun h => h0 (Or.inl h)) (fun h => h0 (Or.inr h)) (hab.2.2.2.2 h3) rfl rfl rfl hn
    · rw [if_neg h3]
      by_cases h4 : s.tx.k = 4
      · rw [if_pos h4]
        exact rtake_4 p n c s N w h4
      · rw [if_neg h4]
        have hw : IntKind.i64.wrap (s.tx.a - s.passed) = s.tx.a - s.passed := by rw [IntKind.wrap_i64]; omega
        by_cases h6 : s.tx.k = 6 ∧ s.tx.a - s.passed < N
        · rw [if_pos h6]
          exact rtake_6a p n c s N w h6.1 hw h6.2
        · rw [if_neg h6]
          by_cases h7 : s.tx.k = 6
          · exact rtake_6b p n c s N w h7 hw (fun h => h6 ⟨h7, h⟩)
          · exact rtake_o p n c s N w h2 h3 h4 h7
end Go.Proofs.YtlbihcpglcdmmaaGreat
namespace Go.Proofs.YtlbihcpglcdmmaaGreat
open Go.RowKit

attribute [local go_sem ↓] to_loadR to_storeR
attribute [local go_sem] run_loadR run_storeR rval
variable {w w' : World} {q n c : Nat} {p : Option Addr} {s s' : St}
/-- A call, as the document has it. -/
def oC (o : Op) : Array Value := #[.int .i64 o.kind, .int .i64 o.now, .int .i64 o.n, .string o.s, .string o.t.s, .int .i64 o.t.k, .bool o.t.up, .int .i64 o.t.o, .int .i64 o.t.a, .int .i64 o.t.b]
def ansC (x : Ans) : Array Value := #[.int .i64 x.n, .string x.s, .int .i64 x.e]
def AAt (w : World) (q : Nat) (x : Ans) : Prop := w.heap[q]? = some (.cells (ansC x) 46 (0, 0))
theorem loadVar_A {x : Ans} (h : AAt w q x) : (loadVar 46 ⟨q, 0, none⟩).run Tryz.prog w = .ok (.agg #[.int .i64 x.n, .string x.s, .int .i64 x.e]) w := by
  have := run_loadVar_mid (P := Tryz.prog) w q 0 46 (ansC x).toList _ (fun j v hv => by
    have hc : w.cell? ⟨q, j, none⟩ = (ansC x)[j]? := by
      unfold AAt at h
      simp [World.cell?, h]
    rw [Nat.zero_add, hc, ← Array.getElem?_toList]
    exact hv) Tryz.underlying46 rfl (by kernel_rfl)
  exact this
/-- Inside of a call: the stage's box, the call's, and the results'. -/
structure Four (w W : World) (o : Op) (p : Option Addr) (n c : Nat) (s : St) : Prop where
  q : RAt W w.heap.size p n c s
  o : W.heap[w.heap.size + 1]? = some (.cells (oC o) 44 (0, 0))
  r : RAt W (w.heap.size + 2) none 0 0 noSt
  a : AAt W (w.heap.size + 3) noAns
  b : Below w.heap.size w W
  row : gc.RowA W p n c s.A
theorem Four.lt {w W : World} {o : Op} (h : Four w W o p n c s) : w.heap.size + 3 < W.heap.size := (Array.getElem?_eq_some_iff.1 h.a).1
theorem four_alloc (o : Op) (hrow : gc.RowA w p n c s.A) : ∃ W0, (((w.alloc (.cells (rC p n c s) 38)).alloc (.cells (oC o) 44)).alloc (.cells (rC none 0 0 noSt) 38)).alloc (.cells (ansC noAns) 46) = W0 ∧ Four w W0 o p n c s := by
  have b1 : Below w.heap.size w (w.alloc (.cells (rC p n c s) 38)) := (Below.refl _ _).alloc (Nat.le_refl _) _
  obtain ⟨W1, h1⟩ : ∃ W1, w.alloc (.cells (rC p n c s) 38) = W1 := ⟨_, rfl⟩
  have s1 : W1.heap.size = w.heap.size + 1 := by rw [← h1]; simp
  have q1 : RAt W1 w.heap.size p n c s := by rw [← h1]; exact rat_alloc w p n c s
  rw [h1] at b1
  have b2 : Below W1.heap.size W1 (W1.alloc (.cells (oC o) 44)) := (Below.refl _ _).alloc (Nat.le_refl _) _
  have o2 := heap_alloc_new W1 (.cells (oC o) 44)
  obtain ⟨W2, h2⟩ : ∃ W2, W1.alloc (.cells (oC o) 44) = W2 := ⟨_, rfl⟩
  have s2 : W2.heap.size = w.heap.size + 2 := by rw [← h2]; simp [s1]
  rw [h2] at b2 o2
  rw [s1] at o2
  have b3 : Below W2.heap.size W2 (W2.alloc (.cells (rC none 0 0 noSt) 38)) := (Below.refl _ _).alloc (Nat.le_refl _) _
  have r3 := rat_alloc W2 none 0 0 noSt
  obtain ⟨W3, h3⟩ : ∃ W3, W2.alloc (.cells (rC none 0 0 noSt) 38) = W3 := ⟨_, rfl⟩
  have s3 : W3.heap.size = w.heap.size + 3 := by rw [← h3]; simp [s2]
  rw [h3] at b3 r3
  rw [s2] at r3
  have b4 : Below W3.heap.size W3 (W3.alloc (.cells (ansC noAns) 46)) := (Below.refl _ _).alloc (Nat.le_refl _) _
  have a4 := heap_alloc_new W3 (.cells (ansC noAns) 46)
  rw [s3] at a4
  rw [h1, h2, h3]
  have b34 := gb.seqB b3 b4
  have b234 := gb.seqB b2 b34
  refine ⟨_, rfl, q1.on b234, (b34.block _ (gb.blk_lt o2)).trans o2, r3.on b4, a4, gb.seqB b1 b234, gc.rowA_on hrow (gb.seqB b1 b234)⟩
theorem Four.on {w W W' : World} {o : Op} (h : Four w W o p n c s) (hb : Below W.heap.size W W') : Four w W' o p n c s :=
  ⟨h.q.on hb, (hb.block _ (gb.blk_lt h.o)).trans h.o, h.r.on hb, (hb.block _ (gb.blk_lt h.a)).trans h.a, gb.seqB h.b hb, gc.rowA_on h.row hb⟩
theorem Four.row_set {w W : World} {o : Op} (h : Four w W o p n c s) (s' : St) (hA : s'.A = s.A) : Four w (W.setRow w.heap.size (rC p n c s')) o p n c s' := by
  refine ⟨h.q.row p n c s', (setRow_other W _ _ _ (show w.heap.size + 1 ≠ w.heap.size by omega)).trans h.o, h.r.farRow _ (by omega), (setRow_other W _ _ _ (show w.heap.size + 3 ≠ w.heap.size by omega)).trans h.a, below_setRow h.b (Nat.le_refl _) _, ?_⟩
  rw [hA]
  exact rowA_setR h.row h.q _
theorem Four.oc {w W : World} {o : Op} (h : Four w W o p n c s) (i : Nat) : W.cell? ⟨w.heap.size + 1, i, none⟩ = (oC o)[i]? := by
  have := h.o
  simp [World.cell?, this]
def finW (W : World) (r a : Nat) (cs : Array Value) (x : Ans) : World := (((W.setRow r cs).setCell ⟨a, 0, none⟩ (.int .i64 x.n)).setCell ⟨a, 1, none⟩ (.string x.s)).setCell ⟨a, 2, none⟩ (.int .i64 x.e)
/-- What the document's call hands back. -/
def Brg (s : St) (x : Ans) (w : World) (e : Ending) (w' : World) : Prop := ∃ p n c, e = .returned (.tuple #[.agg (rC p n c s), .agg #[.int .i64 x.n, .string x.s, .int .i64 x.e]]) ∧ gc.RowA w' p n c s.A ∧ Below w.heap.size w w'
theorem AAt.not_int {x : Ans} (h : AAt w q x) {b : Nat} {cs : Array Value} {fr : Nat × Nat} (hb : w.heap[b]? = some (.cells cs 3 fr)) : b ≠ q := fun e => by
  rw [e] at hb
  unfold AAt at h
  rw [h] at hb
  injection hb with hb
  injection hb with _ hb
  simp at hb
theorem Four.fin {w W : World} {o : Op} (h : Four w W o p n c s) {p' : Option Addr} {n' c' : Nat} {s' : St} (hrow : gc.RowA W p' n' c' s'.A) (x : Ans) :
    ((W.setRow (w.heap.size + 2) (rC p' n' c' s')).cell? ⟨w.heap.size + 3, 0, none⟩ = some (.int .i64 0) ∧ (W.setRow (w.heap.size + 2) (rC p' n' c' s')).cell? ⟨w.heap.size + 3, 1, none⟩ = some (.string ⟨#[]⟩) ∧ (W.setRow (w.heap.size + 2) (rC p' n' c' s')).cell? ⟨w.heap.size + 3, 2, none⟩ = some (.int .i64 0)) ∧
    ((W.setRow (w.heap.size + 2) (rC p' n' c' s')).frozen? ⟨w.heap.size + 3, 0, none⟩ = false ∧ (W.setRow (w.heap.size + 2) (rC p' n' c' s')).frozen? ⟨w.heap.size + 3, 1, none⟩ = false ∧ (W.setRow (w.heap.size + 2) (rC p' n' c' s')).frozen? ⟨w.heap.size + 3, 2, none⟩ = false) ∧
    RAt (finW W (w.heap.size + 2) (w.heap.size + 3) (rC p' n' c' s') x) (w.heap.size + 2) p' n' c' s' ∧ AAt (finW W (w.heap.size + 2) (w.heap.size + 3) (rC p' n' c' s') x) (w.heap.size + 3) x ∧
    gc.RowA (finW W (w.heap.size + 2) (w.heap.size + 3) (rC p' n' c' s') x) p' n' c' s'.A ∧ Below w.heap.size w (finW W (w.heap.size + 2) (w.heap.size + 3) (rC p' n' c' s') x) := by
  have ha : (W.setRow (w.heap.size + 2) (rC p' n' c' s')).heap[w.heap.size + 3]? = some (.cells (ansC noAns) 46 (0, 0)) := (setRow_other W _ _ _ (show w.heap.size + 3 ≠ w.heap.size + 2 by omega)).trans h.a
  have hr := h.r.row p' n' c' s'
  have hw := rowA_setR hrow h.r (rC p' n' c' s')
  have hb := below_setRow h.b (show w.heap.size ≤ w.heap.size + 2 by omega) (rC p' n' c' s')
  refine ⟨⟨cell_of_row _ _ 0 _ _ _ ha, cell_of_row _ _ 1 _ _ _ ha, cell_of_row _ _ 2 _ _ _ ha⟩, ⟨gb.frozen_at ha, gb.frozen_at ha, gb.frozen_at ha⟩, ?_, ?_, ?_, ?_⟩
  · unfold finW
    exact ((hr.far _ (by omega)).far _ (by omega)).far _ (by omega)
  · unfold finW AAt
    exact gb.set_heap (i := 2) (gb.set_heap (i := 1) (gb.set_heap (i := 0) ha (.int .i64 x.n)) (.string x.s)) (.int .i64 x.e)
  · unfold finW
    have hA0 : AAt (W.setRow (w.heap.size + 2) (rC p' n' c' s')) (w.heap.size + 3) noAns := ha
    refine rowA_typed hw fun b cs fr hbb => ?_
    have hne : b ≠ w.heap.size + 3 := hA0.not_int hbb
    rw [Below.heap_setCell _ _ _ _ hne, Below.heap_setCell _ _ _ _ hne, Below.heap_setCell _ _ _ _ hne]
  · unfold finW
    exact ((hb.setCell (p := ⟨w.heap.size + 3, 0, none⟩) (show w.heap.size ≤ w.heap.size + 3 by omega) _).setCell (p := ⟨w.heap.size + 3, 1, none⟩) (show w.heap.size ≤ w.heap.size + 3 by omega) _).setCell (p := ⟨w.heap.size + 3, 2, none⟩) (show w.heap.size ≤ w.heap.size + 3 by omega) _
end Go.Proofs.YtlbihcpglcdmmaaGreat
namespace Go.Proofs.YtlbihcpglcdmmaaGreat
open Go.RowKit

attribute [local go_sem ↓] to_loadR to_storeR
attribute [local go_sem] run_loadR run_storeR rval
variable {w w' : World} {q n c : Nat} {p : Option Addr} {s s' : St}
set_option maxRecDepth 100000 in
set_option maxHeartbeats 8000000 in
theorem rbring_st (p : Option Addr) (n c : Nat) (s : St) (o : Op) (w : World) (hrow : gc.RowA w p n c s.A) (hst : (lookS s o.now).st ≠ 0) : Calls Tryz.prog 25 #[.agg (rC p n c s), .agg #[.int .i64 o.kind, .int .i64 o.now, .int .i64 o.n, .string o.s, .string o.t.s, .int .i64 o.t.k, .bool o.t.up, .int .i64 o.t.o, .int .i64 o.t.a, .int .i64 o.t.b]] w (Brg (lookS s o.now) ⟨0, ⟨#[]⟩, 0⟩ w) := by
  have HLK := Lib.hid (fun W => rlook_any p n c s o.now W)
  have e1 : ((lookS s o.now).st != 0) = true := by simpa using hst
  have e2 : decide ((lookS s o.now).st = 0) = false := by simpa using hst
  obtain ⟨W0, hW0, h4⟩ := four_alloc (s := s) o hrow
  have hW0 : (((w.alloc (.cells (rC p n c s) 38)).alloc (.cells #[.int .i64 o.kind, .int .i64 o.now, .int .i64 o.n, .string o.s, .string o.t.s, .int .i64 o.t.k, .bool o.t.up, .int .i64 o.t.o, .int .i64 o.t.a, .int .i64 o.t.b] 44)).alloc (.cells #[.string ⟨#[]⟩, .int .i64 0, .bool false, .int .i64 0, .int .i64 0, .int .i64 0, .int .u64 0, .int .i64 0, .int .i64 0, .int .i64 0, .int .i64 0, .string ⟨#[]⟩, .slice none 0 0, .int .i64 0, .int .i64 0, .int .i64 0, .int .i64 0, .int .i64 0, .int .i64 0, .bool false, .int .i64 0, .int .i64 0] 38)).alloc (.cells #[.int .i64 0, .string ⟨#[]⟩, .int .i64 0] 46) = W0 := hW0
  have H0 := Lib.hid h4
  have i0 := h4.q.is
  have k0 := h4.q.cells
  have hlt := h4.lt
  clear h4 hrow hst
  have y1 : W0.cell? ⟨w.heap.size + 1, 1, none⟩ = some (.int .i64 o.now) := H0.out.oc 1
  go_enter Tryz.func25, Tryz.ntmps25
  go_wp2_with fail
  clear hW0
  refine (HLK.out _).mono ?_
  rintro e w1 ⟨rfl, hb1⟩
  have H1 := Lib.hid (H0.out.on hb1)
  have i1 := H1.out.q.is
  have H2 := Lib.hid (H1.out.row_set (lookS s o.now) rfl)
  clear hb1 H0 HLK y1 i0 k0 hlt
  go_upto_region 2 with fail
  generalize w1.setRow w.heap.size (rC p n c (lookS s o.now)) = w2 at *
  clear i1 H1
  have x21 : w2.cell? ⟨w.heap.size, 21, none⟩ = some (.int .i64 (lookS s o.now).st) := H2.out.q.cell 21
  go_upto_region 3 with fail
  clear x21 e1 e2
  obtain ⟨⟨t0, t1, t2⟩, ⟨g0, g1, g2⟩, hz, hza, hzr, hzb⟩ := H2.out.fin (p' := p) (n' := n) (c' := c) (s' := (lookS s o.now)) H2.out.row ⟨0, ⟨#[]⟩, 0⟩
  have HZ := Lib.hid hz
  have HZA := Lib.hid hza
  have HZR := Lib.hid hzr
  have HZB := Lib.hid hzb
  have i1z := H2.out.q.is
  have k1z := H2.out.q.cells
  have i2z := H2.out.r.is
  have hltz := H2.out.lt
  clear hz hza hzr hzb
  go_wp2_with fail
  generalize hWf : finW w2 (w.heap.size + 2) (w.heap.size + 3) (rC p n c (lookS s o.now)) ⟨0, ⟨#[]⟩, 0⟩ = wz at *
  unfold finW at hWf
  dsimp only at hWf
  try rw [hWf]
  exact bodyPost_ret (v := .tuple #[.agg (rC p n c (lookS s o.now)), .agg #[.int .i64 0, .string ⟨#[]⟩, .int .i64 0]]) (by simp [results, Tryz.results25, asAddr, loadVar_R HZ.out, loadVar_A HZA.out]) rfl ⟨p, n, c, rfl, HZR.out, HZB.out⟩
set_option maxRecDepth 100000 in
set_option maxHeartbeats 8000000 in
theorem rbring_force (p : Option Addr) (n c : Nat) (s : St) (o : Op) (w : World) (hrow : gc.RowA w p n c s.A) (hst : (lookS s o.now).st = 0) (hk : o.kind = 1) (hf : ∀ W, gc.RowA W p n c s.A → Calls Tryz.prog 50 #[.agg (rC p n c (lookS s o.now)), .string o.s] W (Frc (forceS (lookS s o.now) o.s) W)) : Calls Tryz.prog 25 #[.agg (rC p n c s), .agg #[.int .i64 o.kind, .int .i64 o.now, .int .i64 o.n, .string o.s, .string o.t.s, .int .i64 o.t.k, .bool o.t.up, .int .i64 o.t.o, .int .i64 o.t.a, .int .i64 o.t.b]] w (Brg (forceS (lookS s o.now) o.s) ⟨0, ⟨#[]⟩, 0⟩ w) := by
  have HLK := Lib.hid (fun W => rlook_any p n c s o.now W)
  have HST := Lib.hid hst
  have d1 : (o.kind == 1) = true := by simpa using hk
  have d2 : decide (o.kind = 1) = true := by simpa using hk
  have HF := Lib.hid hf
  obtain ⟨W0, hW0, h4⟩ := four_alloc (s := s) o hrow
  have hW0 : (((w.alloc (.cells (rC p n c s) 38)).alloc (.cells #[.int .i64 o.kind, .int .i64 o.now, .int .i64 o.n, .string o.s, .string o.t.s, .int .i64 o.t.k, .bool o.t.up, .int .i64 o.t.o, .int .i64 o.t.a, .int .i64 o.t.b] 44)).alloc (.cells #[.string ⟨#[]⟩, .int .i64 0, .bool false, .int .i64 0, .int .i64 0, .int .i64 0, .int .u64 0, .int .i64 0, .int .i64 0, .int .i64 0, .int .i64 0, .string ⟨#[]⟩, .slice none 0 0, .int .i64 0, .int .i64 0, .int .i64 0, .int .i64 0, .int .i64 0, .int .i64 0, .bool false, .int .i64 0, .int .i64 0] 38)).alloc (.cells #[.int .i64 0, .string ⟨#[]⟩, .int .i64 0] 46) = W0 := hW0
  have H0 := Lib.hid h4
  have i0 := h4.q.is
  have k0 := h4.q.cells
  have hlt := h4.lt
  clear h4 hrow hst hk hf
  have y1 : W0.cell? ⟨w.heap.size + 1, 1, none⟩ = some (.int .i64 o.now) := H0.out.oc 1
  go_enter Tryz.func25, Tryz.ntmps25
  go_wp2_with fail
  clear hW0
  refine (HLK.out _).mono ?_
  rintro e w1 ⟨rfl, hb1⟩
  have H1 := Lib.hid (H0.out.on hb1)
  have i1 := H1.out.q.is
  have H2 := Lib.hid (H1.out.row_set (lookS s o.now) rfl)
  clear hb1 H0 HLK y1 i0 k0 hlt
  go_upto_region 2 with fail
  generalize w1.setRow w.heap.size (rC p n c (lookS s o.now)) = w2 at *
  clear i1 H1
  have x21 : w2.cell? ⟨w.heap.size, 21, none⟩ = some (.int .i64 (lookS s o.now).st) := H2.out.q.cell 21
  rw [HST.out] at x21
  have y0 : w2.cell? ⟨w.heap.size + 1, 0, none⟩ = some (.int .i64 o.kind) := H2.out.oc 0
  have y3 : w2.cell? ⟨w.heap.size + 1, 3, none⟩ = some (.string o.s) := H2.out.oc 3
  have i1 := H2.out.q.is
  have k1 := H2.out.q.cells
  go_wp2_with fail
  clear x21 y0 y3 i1 k1 d1 d2
  refine (HF.out _ H2.out.row).mono ?_
  rintro e w3 ⟨p1, n1, c1, rfl, hrow3, hb3⟩
  have H3 := Lib.hid (H2.out.on hb3)
  have HRW3 := Lib.hid hrow3
  clear hb3 hrow3 H2 HF
  obtain ⟨⟨t0, t1, t2⟩, ⟨g0, g1, g2⟩, hz, hza, hzr, hzb⟩ := H3.out.fin (p' := p1) (n' := n1) (c' := c1) (s' := (forceS (lookS s o.now) o.s)) HRW3.out ⟨0, ⟨#[]⟩, 0⟩
  have HZ := Lib.hid hz
  have HZA := Lib.hid hza
  have HZR := Lib.hid hzr
  have HZB := Lib.hid hzb
  have i1z := H3.out.q.is
  have k1z := H3.out.q.cells
  have i2z := H3.out.r.is
  have hltz := H3.out.lt
  clear hz hza hzr hzb
  go_wp2_with fail
  generalize hWf : finW w3 (w.heap.size + 2) (w.heap.size + 3) (rC p1 n1 c1 (forceS (lookS s o.now) o.s)) ⟨0, ⟨#[]⟩, 0⟩ = wz at *
  unfold finW at hWf
  dsimp only at hWf
  try rw [hWf]
  exact bodyPost_ret (v := .tuple #[.agg (rC p1 n1 c1 (forceS (lookS s o.now) o.s)), .agg #[.int .i64 0, .string ⟨#[]⟩, .int .i64 0]]) (by simp [results, Tryz.results25, asAddr, loadVar_R HZ.out, loadVar_A HZA.out]) rfl ⟨p1, n1, c1, rfl, HZR.out, HZB.out⟩
set_option maxRecDepth 100000 in
set_option maxHeartbeats 8000000 in
theorem rbring_closed (p : Option Addr) (n c : Nat) (s : St) (o : Op) (w : World) (hrow : gc.RowA w p n c s.A) (hst : (lookS s o.now).st = 0) (hk : ¬ o.kind = 1) (hc : (lookS s o.now).closed = true) : Calls Tryz.prog 25 #[.agg (rC p n c s), .agg #[.int .i64 o.kind, .int .i64 o.now, .int .i64 o.n, .string o.s, .string o.t.s, .int .i64 o.t.k, .bool o.t.up, .int .i64 o.t.o, .int .i64 o.t.a, .int .i64 o.t.b]] w (Brg (lookS s o.now) ⟨0, ⟨#[]⟩, 0⟩ w) := by
  have HLK := Lib.hid (fun W => rlook_any p n c s o.now W)
  have HST := Lib.hid hst
  have d1 : (o.kind == 1) = false := by simpa using hk
  have d2 : decide (o.kind = 1) = false := by simpa using hk
  have HCL := Lib.hid hc
  obtain ⟨W0, hW0, h4⟩ := four_alloc (s := s) o hrow
  have hW0 : (((w.alloc (.cells (rC p n c s) 38)).alloc (.cells #[.int .i64 o.kind, .int .i64 o.now, .int .i64 o.n, .string o.s, .string o.t.s, .int .i64 o.t.k, .bool o.t.up, .int .i64 o.t.o, .int .i64 o.t.a, .int .i64 o.t.b] 44)).alloc (.cells #[.string ⟨#[]⟩, .int .i64 0, .bool false, .int .i64 0, .int .i64 0, .int .i64 0, .int .u64 0, .int .i64 0, .int .i64 0, .int .i64 0, .int .i64 0, .string ⟨#[]⟩, .slice none 0 0, .int .i64 0, .int .i64 0, .int .i64 0, .int .i64 0, .int .i64 0, .int .i64 0, .bool false, .int .i64 0, .int .i64 0] 38)).alloc (.cells #[.int .i64 0, .string ⟨#[]⟩, .int .i64 0] 46) = W0 := hW0
  have H0 := Lib.hid h4
  have i0 := h4.q.is
  have k0 := h4.q.cells
  have hlt := h4.lt
  clear h4 hrow hst hk hc
  have y1 : W0.cell? ⟨w.heap.size + 1, 1, none⟩ = some (.int .i64 o.now) := H0.out.oc 1
  go_enter Tryz.func25, Tryz.ntmps25
  go_wp2_with fail
  clear hW0
  refine (HLK.out _).mono ?_
  rintro e w1 ⟨rfl, hb1⟩
  have H1 := Lib.hid (H0.out.on hb1)
  have i1 := H1.out.q.is
  have H2 := Lib.hid (H1.out.row_set (lookS s o.now) rfl)
  clear hb1 H0 HLK y1 i0 k0 hlt
  go_upto_region 2 with fail
  generalize w1.setRow w.heap.size (rC p n c (lookS s o.now)) = w2 at *
  clear i1 H1
  have x21 : w2.cell? ⟨w.heap.size, 21, none⟩ = some (.int .i64 (lookS s o.now).st) := H2.out.q.cell 21
  rw [HST.out] at x21
  have y0 : w2.cell? ⟨w.heap.size + 1, 0, none⟩ = some (.int .i64 o.kind) := H2.out.oc 0
  have x19 : w2.cell? ⟨w.heap.size, 19, none⟩ = some (.bool (lookS s o.now).closed) := H2.out.q.cell 19
  rw [HCL.out] at x19
  go_upto_region 7 with fail
  clear x21 y0 x19 d1 d2
  obtain ⟨⟨t0, t1, t2⟩, ⟨g0, g1, g2⟩, hz, hza, hzr, hzb⟩ := H2.out.fin (p' := p) (n' := n) (c' := c) (s' := (lookS s o.now)) H2.out.row ⟨0, ⟨#[]⟩, 0⟩
  have HZ := Lib.hid hz
  have HZA := Lib.hid hza
  have HZR := Lib.hid hzr
  have HZB := Lib.hid hzb
  have i1z := H2.out.q.is
  have k1z := H2.out.q.cells
  have i2z := H2.out.r.is
  have hltz := H2.out.lt
  clear hz hza hzr hzb
  go_wp2_with fail
  generalize hWf : finW w2 (w.heap.size + 2) (w.heap.size + 3) (rC p n c (lookS s o.now)) ⟨0, ⟨#[]⟩, 0⟩ = wz at *
  unfold finW at hWf
  dsimp only at hWf
  try rw [hWf]
  exact bodyPost_ret (v := .tuple #[.agg (rC p n c (lookS s o.now)), .agg #[.int .i64 0, .string ⟨#[]⟩, .int .i64 0]]) (by simp [results, Tryz.results25, asAddr, loadVar_R HZ.out, loadVar_A HZA.out]) rfl ⟨p, n, c, rfl, HZR.out, HZB.out⟩
end Go.Proofs.YtlbihcpglcdmmaaGreat
namespace Go.Proofs.YtlbihcpglcdmmaaGreat
open Go.RowKit

attribute [local go_sem ↓] to_loadR to_storeR
attribute [local go_sem] run_loadR run_storeR rval
variable {w w' : World} {q n c : Nat} {p : Option Addr} {s s' : St}
set_option maxRecDepth 100000 in
set_option maxHeartbeats 8000000 in
theorem rbring_gt (p : Option Addr) (n c : Nat) (s : St) (o : Op) (w : World) (hrow : gc.RowA w p n c s.A) (hst : (lookS s o.now).st = 0) (hk : ¬ o.kind = 1) (hc : (lookS s o.now).closed = false) (hrm : 0 ≤ s.room ∧ s.room ≤ 4096) {G : Int} (hG : freeS (lookS s o.now) = G) {K : Nat} (hK : G = (K : Int)) (hgt : G < (o.s.size : Int)) (hf : ∀ W, gc.RowA W p n c s.A → Calls Tryz.prog 50 #[.agg (rC p n c (lookS s o.now)), .string (o.s.extract 0 K)] W (Frc (forceS (lookS s o.now) (o.s.extract 0 K)) W)) : Calls Tryz.prog 25 #[.agg (rC p n c s), .agg #[.int .i64 o.kind, .int .i64 o.now, .int .i64 o.n, .string o.s, .string o.t.s, .int .i64 o.t.k, .bool o.t.up, .int .i64 o.t.o, .int .i64 o.t.a, .int .i64 o.t.b]] w (Brg (forceS (lookS s o.now) (o.s.extract 0 K)) ⟨(K : Nat), ⟨#[]⟩, 0⟩ w) := by
  have HLK := Lib.hid (fun W => rlook_any p n c s o.now W)
  have HST := Lib.hid hst
  have d1 : (o.kind == 1) = false := by simpa using hk
  have d2 : decide (o.kind = 1) = false := by simpa using hk
  have HFR := Lib.hid (fun W => show Calls Tryz.prog 51 #[.agg (rC p n c (lookS s o.now))] W fun e w' => e = .returned (.int .i64 G) ∧ Below W.heap.size W w' from by rw [← hG]; exact rfree_any p n c (lookS s o.now) W hrm)
  have HCL := Lib.hid hc
  have HF := Lib.hid hf
  have hd : decide (G < (o.s.size : Int)) = true := by simpa using hgt
  have HKK := Lib.hid hK
  have hkn : K ≤ o.s.size := by omega
  obtain ⟨W0, hW0, h4⟩ := four_alloc (s := s) o hrow
  have hW0 : (((w.alloc (.cells (rC p n c s) 38)).alloc (.cells #[.int .i64 o.kind, .int .i64 o.now, .int .i64 o.n, .string o.s, .string o.t.s, .int .i64 o.t.k, .bool o.t.up, .int .i64 o.t.o, .int .i64 o.t.a, .int .i64 o.t.b] 44)).alloc (.cells #[.string ⟨#[]⟩, .int .i64 0, .bool false, .int .i64 0, .int .i64 0, .int .i64 0, .int .u64 0, .int .i64 0, .int .i64 0, .int .i64 0, .int .i64 0, .string ⟨#[]⟩, .slice none 0 0, .int .i64 0, .int .i64 0, .int .i64 0, .int .i64 0, .int .i64 0, .int .i64 0, .bool false, .int .i64 0, .int .i64 0] 38)).alloc (.cells #[.int .i64 0, .string ⟨#[]⟩, .int .i64 0] 46) = W0 := hW0
  have H0 := Lib.hid h4
  have i0 := h4.q.is
  have k0 := h4.q.cells
  have hlt := h4.lt
  clear h4 hrow hst hk hc hf hrm hG hK hgt
  have y1 : W0.cell? ⟨w.heap.size + 1, 1, none⟩ = some (.int .i64 o.now) := H0.out.oc 1
  go_enter Tryz.func25, Tryz.ntmps25
  go_wp2_with fail
  clear hW0
  refine (HLK.out _).mono ?_
  rintro e w1 ⟨rfl, hb1⟩
  have H1 := Lib.hid (H0.out.on hb1)
  have i1 := H1.out.q.is
  have H2 := Lib.hid (H1.out.row_set (lookS s o.now) rfl)
  clear hb1 H0 HLK y1 i0 k0 hlt
  go_upto_region 2 with fail
  generalize w1.setRow w.heap.size (rC p n c (lookS s o.now)) = w2 at *
  clear i1 H1
  have x21 : w2.cell? ⟨w.heap.size, 21, none⟩ = some (.int .i64 (lookS s o.now).st) := H2.out.q.cell 21
  rw [HST.out] at x21
  have y0 : w2.cell? ⟨w.heap.size + 1, 0, none⟩ = some (.int .i64 o.kind) := H2.out.oc 0
  have y3 : w2.cell? ⟨w.heap.size + 1, 3, none⟩ = some (.string o.s) := H2.out.oc 3
  have x19 : w2.cell? ⟨w.heap.size, 19, none⟩ = some (.bool (lookS s o.now).closed) := H2.out.q.cell 19
  rw [HCL.out] at x19
  have i1 := H2.out.q.is
  have k1 := H2.out.q.cells
  go_wp2_with fail
  refine (HFR.out _).mono ?_
  rintro e w3 ⟨rfl, hb3⟩
  have H3 := Lib.hid (H2.out.on hb3)
  clear hb3 H2 x21 y0 y3 x19 i1 k1 d1 d2
  have i1 := H3.out.q.is
  have k1 := H3.out.q.cells
  have y3 : w3.cell? ⟨w.heap.size + 1, 3, none⟩ = some (.string o.s) := H3.out.oc 3
  go_wp2_with fail
  refine (HFR.out _).mono ?_
  rintro e w4 ⟨rfl, hb4⟩
  have H4 := Lib.hid (H3.out.on hb4)
  rw [HKK.out]
  clear hb4 H3 y3 i1 k1 hd
  have i1 := H4.out.q.is
  have k1 := H4.out.q.cells
  have i2 := H4.out.q.drew.is
  have k2 := H4.out.q.drew.cells
  have y3 : w4.cell? ⟨w.heap.size + 1, 3, none⟩ = some (.string o.s) := H4.out.oc 3
  have HF2 := Lib.hid (HF.out w4.drew (gc.rowA_on H4.out.row (Below.refl _ w4).drew))
  go_wp2_with fail
  go_region_law
    (first
      | (go_simp; go_at_call 50; (with_reducible refine Calls.mono HF2.out ?_); rintro e w5 ⟨p1, n1, c1, rfl, hrow5, hb5⟩; (have h5 := (H4.out.on (Below.refl _ w4).drew).on hb5); (have i5 := h5.r.is); (have hlt5 := h5.lt); (obtain ⟨⟨t0, t1, t2⟩, ⟨g0, g1, g2⟩, hz, hza, hzr, hzb⟩ := h5.fin hrow5 ⟨(K : Nat), ⟨#[]⟩, 0⟩)))
  all_goals (
    have HZ := Lib.hid hz
    have HZA := Lib.hid hza
    have HZR := Lib.hid hzr
    have HZB := Lib.hid hzb
    clear hz hza hzr hzb h5 i5 hlt5 hb5 hrow5
    go_wp2_with fail
    generalize hWf : finW w5 (w.heap.size + 2) (w.heap.size + 3) (rC p1 n1 c1 (forceS (lookS s o.now) (o.s.extract 0 K))) ⟨(K : Nat), ⟨#[]⟩, 0⟩ = wz at *
    unfold finW at hWf
    dsimp only at hWf
    try rw [hWf]
    exact bodyPost_ret (v := .tuple #[.agg (rC p1 n1 c1 (forceS (lookS s o.now) (o.s.extract 0 K))), .agg #[.int .i64 (K : Nat), .string ⟨#[]⟩, .int .i64 0]]) (by simp [results, Tryz.results25, asAddr, loadVar_R HZ.out, loadVar_A HZA.out]) rfl ⟨p1, n1, c1, rfl, HZR.out, HZB.out⟩)
set_option maxRecDepth 100000 in
set_option maxHeartbeats 8000000 in
theorem rbring_le (p : Option Addr) (n c : Nat) (s : St) (o : Op) (w : World) (hrow : gc.RowA w p n c s.A) (hst : (lookS s o.now).st = 0) (hk : ¬ o.kind = 1) (hc : (lookS s o.now).closed = false) (hrm : 0 ≤ s.room ∧ s.room ≤ 4096) {G : Int} (hG : freeS (lookS s o.now) = G) {K : Nat} (hK : G = (K : Int)) (hgt : ¬ G < (o.s.size : Int)) (hf : ∀ W, gc.RowA W p n c s.A → Calls Tryz.prog 50 #[.agg (rC p n c (lookS s o.now)), .string o.s] W (Frc (forceS (lookS s o.now) o.s) W)) : Calls Tryz.prog 25 #[.agg (rC p n c s), .agg #[.int .i64 o.kind, .int .i64 o.now, .int .i64 o.n, .string o.s, .string o.t.s, .int .i64 o.t.k, .bool o.t.up, .int .i64 o.t.o, .int .i64 o.t.a, .int .i64 o.t.b]] w (Brg (forceS (lookS s o.now) o.s) ⟨(o.s.size : Nat), ⟨#[]⟩, 0⟩ w) := by
  have HLK := Lib.hid (fun W => rlook_any p n c s o.now W)
  have HST := Lib.hid hst
  have d1 : (o.kind == 1) = false := by simpa using hk
  have d2 : decide (o.kind = 1) = false := by simpa using hk
  have HFR := Lib.hid (fun W => show Calls Tryz.prog 51 #[.agg (rC p n c (lookS s o.now))] W fun e w' => e = .returned (.int .i64 G) ∧ Below W.heap.size W w' from by rw [← hG]; exact rfree_any p n c (lookS s o.now) W hrm)
  have HCL := Lib.hid hc
  have HF := Lib.hid hf
  have hd : decide (G < (o.s.size : Int)) = false := by simpa using hgt
  have HKK := Lib.hid hK
  obtain ⟨W0, hW0, h4⟩ := four_alloc (s := s) o hrow
  have hW0 : (((w.alloc (.cells (rC p n c s) 38)).alloc (.cells #[.int .i64 o.kind, .int .i64 o.now, .int .i64 o.n, .string o.s, .string o.t.s, .int .i64 o.t.k, .bool o.t.up, .int .i64 o.t.o, .int .i64 o.t.a, .int .i64 o.t.b] 44)).alloc (.cells #[.string ⟨#[]⟩, .int .i64 0, .bool false, .int .i64 0, .int .i64 0, .int .i64 0, .int .u64 0, .int .i64 0, .int .i64 0, .int .i64 0, .int .i64 0, .string ⟨#[]⟩, .slice none 0 0, .int .i64 0, .int .i64 0, .int .i64 0, .int .i64 0, .int .i64 0, .int .i64 0, .bool false, .int .i64 0, .int .i64 0] 38)).alloc (.cells #[.int .i64 0, .string ⟨#[]⟩, .int .i64 0] 46) = W0 := hW0
  have H0 := Lib.hid h4
  have i0 := h4.q.is
  have k0 := h4.q.cells
  have hlt := h4.lt
  clear h4 hrow hst hk hc hf hrm hG hK hgt
  have y1 : W0.cell? ⟨w.heap.size + 1, 1, none⟩ = some (.int .i64 o.now) := H0.out.oc 1
  go_enter Tryz.func25, Tryz.ntmps25
  go_wp2_with fail
  clear hW0
  refine (HLK.out _).mono ?_
  rintro e w1 ⟨rfl, hb1⟩
  have H1 := Lib.hid (H0.out.on hb1)
  have i1 := H1.out.q.is
  have H2 := Lib.hid (H1.out.row_set (lookS s o.now) rfl)
  clear hb1 H0 HLK y1 i0 k0 hlt
  go_upto_region 2 with fail
  generalize w1.setRow w.heap.size (rC p n c (lookS s o.now)) = w2 at *
  clear i1 H1
  have x21 : w2.cell? ⟨w.heap.size, 21, none⟩ = some (.int .i64 (lookS s o.now).st) := H2.out.q.cell 21
  rw [HST.out] at x21
  have y0 : w2.cell? ⟨w.heap.size + 1, 0, none⟩ = some (.int .i64 o.kind) := H2.out.oc 0
  have y3 : w2.cell? ⟨w.heap.size + 1, 3, none⟩ = some (.string o.s) := H2.out.oc 3
  have x19 : w2.cell? ⟨w.heap.size, 19, none⟩ = some (.bool (lookS s o.now).closed) := H2.out.q.cell 19
  rw [HCL.out] at x19
  have i1 := H2.out.q.is
  have k1 := H2.out.q.cells
  go_wp2_with fail
  refine (HFR.out _).mono ?_
  rintro e w3 ⟨rfl, hb3⟩
  have H3 := Lib.hid (H2.out.on hb3)
  clear hb3 H2 x21 y0 y3 x19 i1 k1 d1 d2
  have i1 := H3.out.q.is
  have k1 := H3.out.q.cells
  have y3 : w3.cell? ⟨w.heap.size + 1, 3, none⟩ = some (.string o.s) := H3.out.oc 3
  have H4 := H3
  clear H3 y3 i1 k1
  generalize w3 = w4 at *
  have i1 := H4.out.q.is
  have k1 := H4.out.q.cells
  have i2 := H4.out.q.drew.is
  have k2 := H4.out.q.drew.cells
  have y3 : w4.cell? ⟨w.heap.size + 1, 3, none⟩ = some (.string o.s) := H4.out.oc 3
  have HF2 := Lib.hid (HF.out w4.drew (gc.rowA_on H4.out.row (Below.refl _ w4).drew))
  go_wp2_with fail
  go_region_law
    (first
      | (go_simp; go_at_call 50; (with_reducible refine Calls.mono HF2.out ?_); rintro e w5 ⟨p1, n1, c1, rfl, hrow5, hb5⟩; (have h5 := (H4.out.on (Below.refl _ w4).drew).on hb5); (have i5 := h5.r.is); (have hlt5 := h5.lt); (obtain ⟨⟨t0, t1, t2⟩, ⟨g0, g1, g2⟩, hz, hza, hzr, hzb⟩ := h5.fin hrow5 ⟨(o.s.size : Nat), ⟨#[]⟩, 0⟩)))
  all_goals (
    have HZ := Lib.hid hz
    have HZA := Lib.hid hza
    have HZR := Lib.hid hzr
    have HZB := Lib.hid hzb
    clear hz hza hzr hzb h5 i5 hlt5 hb5 hrow5
    go_wp2_with fail
    generalize hWf : finW w5 (w.heap.size + 2) (w.heap.size + 3) (rC p1 n1 c1 (forceS (lookS s o.now) o.s)) ⟨(o.s.size : Nat), ⟨#[]⟩, 0⟩ = wz at *
    unfold finW at hWf
    dsimp only at hWf
    try rw [hWf]
    exact bodyPost_ret (v := .tuple #[.agg (rC p1 n1 c1 (forceS (lookS s o.now) o.s)), .agg #[.int .i64 (o.s.size : Nat), .string ⟨#[]⟩, .int .i64 0]]) (by simp [results, Tryz.results25, asAddr, loadVar_R HZ.out, loadVar_A HZA.out]) rfl ⟨p1, n1, c1, rfl, HZR.out, HZB.out⟩)
theorem rbring_any (p : Option Addr) (n c : Nat) (s : St) (o : Op) (w : World) (hrow : gc.RowA w p n c s.A) {M : Nat} (ho : Ok s M) (hn : n ≤ 100000) (hos : o.s.size ≤ 100000) (hS : s.S.size ≤ 100000) (hk : o.kind = 0 ∨ o.kind = 1) : Calls Tryz.prog 25 #[.agg (rC p n c s), .agg #[.int .i64 o.kind, .int .i64 o.now, .int .i64 o.n, .string o.s, .string o.t.s, .int .i64 o.t.k, .bool o.t.up, .int .i64 o.t.o, .int .i64 o.t.a, .int .i64 o.t.b]] w (Brg (doS s o).1 (doS s o).2 w) := by
  have hab := (ho.look o.now).ab
  have hfo : ∀ (b : ByteArray), b.size ≤ 100000 → ∀ W, gc.RowA W p n c s.A → Calls Tryz.prog 50 #[.agg (rC p n c (lookS s o.now)), .string b] W (Frc (forceS (lookS s o.now) b) W) := fun b hb W hr => rforce_any p n c (lookS s o.now) W hr ⟨hab.1, hab.2.1⟩ hn hb hS
  have hpos := free_pos (lookS s o.now)
  unfold doS
  rcases hk with hk | hk
  · rw [if_pos hk]
    unfold bringS
    dsimp only
    by_cases hst : (lookS s o.now).st = 0
    · cases hc : (lookS s o.now).closed with
      | true =>
        rw [if_pos (Or.inr rfl)]
        exact rbring_closed p n c s o w hrow hst (by omega) hc
      | false =>
        rw [if_neg (by simpa using hst)]
        by_cases hg : freeS (lookS s o.now) < (o.s.size : Int)
        · rw [if_pos hg]
          have hK : freeS (lookS s o.now) = ((freeS (lookS s o.now)).toNat : Int) := by omega
          have he : (o.s.extract 0 (freeS (lookS s o.now)).toNat).size ≤ 100000 := by rw [ByteArray.size_extract]; omega
          have := rbring_gt p n c s o w hrow hst (by omega) hc (by have := ho.room; omega) rfl hK hg (hfo _ he)
          rw [← hK] at this
          exact this
        · rw [if_neg hg]
          have he : ((o.s.size : Int)).toNat = o.s.size := rfl
          rw [he, extract_all]
          exact rbring_le p n c s o w hrow hst (by omega) hc (by have := ho.room; omega) rfl (K := (freeS (lookS s o.now)).toNat) (by omega) hg (hfo _ hos)
    · rw [if_pos (Or.inl hst)]
      exact rbring_st p n c s o w hrow hst
  · rw [if_neg (by omega), if_pos hk]
    unfold pushS
    dsimp only
    by_cases hst : (lookS s o.now).st = 0
    · rw [if_neg (by simpa using hst)]
      exact rbring_force p n c s o w hrow hst hk (hfo _ hos)
    · rw [if_pos hst]
      exact rbring_st p n c s o w hrow hst
end Go.Proofs.YtlbihcpglcdmmaaGreat

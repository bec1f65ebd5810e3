/-
  The document's stage in memory. Conditions: as each states.
  Contracts: Held and Free of the document. Conditions: as each states.
  Contract: what a stage of the document is behind a tick. Conditions: as each states.
-/
import Derived.Test.YtlbihcpglcdmmaaGreatZ1
import Derived.Test.YtlbihcpglcdmmaaGreatZ2
import Derived.Test.YtlbihcpglcdmmaaGreatZ3
import Derived.Test.YtlbihcpglcdmmaaGreatZ4
import Derived.Test.YtlbihcpglcdmmaaGreatZ5
import Derived.Deep.MidRow
import Derived.Laws.CopyOwn
import Derived.Deep.RegionHeldLaw
import Derived.Deep.RegionLaw
import Derived.Deep.Cut
import Derived.StillTailTactics
import Derived.BigQuiet
import Derived.Test.YtlbihcpglcdmmaaGreatZB
namespace Go.Proofs.YtlbihcpglcdmmaaGreat
open Go.RowKit

/-- The cells of the document's stage; its ticks lie in a row. -/
def rC (p : Option Addr) (n c : Nat) (s : St) : Array Value := #[.string s.tx.s, .int .i64 s.tx.k, .bool s.tx.up, .int .i64 s.tx.o, .int .i64 s.tx.a, .int .i64 s.tx.b, .int .u64 s.d, .int .i64 s.bk.r, .int .i64 s.bk.u, .int .i64 s.bk.l, .int .i64 s.bk.t, .string s.S, .slice p n c, .int .i64 s.last, .int .i64 s.room, .int .i64 s.began, .int .i64 s.clock, .int .i64 s.pause, .int .i64 s.passed, .bool s.closed, .int .i64 s.at', .int .i64 s.st]
/-- A document's stage in a block of its own. -/
def RAt (w : World) (q : Nat) (p : Option Addr) (n c : Nat) (s : St) : Prop := w.heap[q]? = some (.cells (rC p n c s) 38 (0, 0))
def noSt : St := ⟨noTox, 0, ⟨0, 0, 0, 0⟩, ⟨#[]⟩, [], 0, 0, 0, 0, 0, 0, false, 0, 0⟩
variable {w w' : World} {q n c : Nat} {p : Option Addr} {s s' : St}
theorem RAt.lt (h : RAt w q p n c s) : q < w.heap.size := (Array.getElem?_eq_some_iff.1 h).1
theorem RAt.on (h : RAt w q p n c s) (hb : Below w.heap.size w w') : RAt w' q p n c s := (hb.block _ h.lt).trans h
theorem RAt.drew (h : RAt w q p n c s) : RAt w.drew q p n c s := h
theorem RAt.cell (h : RAt w q p n c s) (i : Nat) : w.cell? ⟨q, i, none⟩ = (rC p n c s)[i]? := by
  unfold RAt at h
  simp [World.cell?, h]
theorem RAt.frz (h : RAt w q p n c s) (i : Nat) : w.frozen? ⟨q, i, none⟩ = false := by
  unfold RAt at h
  simp [World.frozen?, h]
theorem RAt.set (h : RAt w q p n c s) {i : Nat} {v : Value} {p' : Option Addr} {n' c' : Nat} (hc : (rC p n c s).setIfInBounds i v = rC p' n' c' s') : RAt (w.setCell ⟨q, i, none⟩ v) q p' n' c' s' := by
  unfold RAt at h ⊢
  rw [← hc]
  simp [World.setCell, Array.getElem?_modify, h]
theorem RAt.far (h : RAt w q p n c s) {g i : Nat} (v : Value) (hg : q ≠ g) : RAt (w.setCell ⟨g, i, none⟩ v) q p n c s := (Below.heap_setCell w ⟨g, i, none⟩ v q hg).trans h
theorem RAt.row (h : RAt w q p n c s) (p' : Option Addr) (n' c' : Nat) (s' : St) : RAt (w.setRow q (rC p' n' c' s')) q p' n' c' s' := setRow_heap w q _ _ _ _ h
theorem RAt.farRow (h : RAt w q p n c s) {g : Nat} (cs : Array Value) (hg : q ≠ g) : RAt (w.setRow g cs) q p n c s := (setRow_other w g q cs hg).trans h
theorem rat_alloc (w : World) (p : Option Addr) (n c : Nat) (s : St) : RAt (w.alloc (.cells (rC p n c s) 38)) w.heap.size p n c s := heap_alloc_new w _
/-- Is it one? -/
def RIs (w : World) (q : Nat) : Prop := ∃ p n c s, RAt w q p n c s
def cellsAt (w : World) (q : Nat) : Array Value := match w.heap[q]? with
  | some (.cells cs _ _) => cs
  | _ => #[]
def RVal (cs : Array Value) : Prop := ∃ p n c s, cs = rC p n c s
theorem rval (p : Option Addr) (n c : Nat) (s : St) : RVal (rC p n c s) := ⟨p, n, c, s, rfl⟩
theorem RAt.is (h : RAt w q p n c s) : RIs w q := ⟨p, n, c, s, h⟩
theorem RAt.cells (h : RAt w q p n c s) : cellsAt w q = rC p n c s := by
  unfold RAt at h
  unfold cellsAt
  rw [h]
def loadR (v : Value) : Sem Value := Instr.loadAt 38 v
def storeR (v x : Value) : Sem Unit := Instr.storeAt 38 v x
theorem to_loadR (v : Value) : Instr.loadAt 38 v = loadR v := rfl
theorem to_storeR (v x : Value) : Instr.storeAt 38 v x = storeR v x := rfl
theorem loadVar_R (h : RAt w q p n c s) : (loadVar 38 ⟨q, 0, none⟩).run Tryz.prog w = .ok (.agg (rC p n c s)) w := by
  have := run_loadVar_mid (P := Tryz.prog) w q 0 38 (rC p n c s).toList _ (fun j v hv => by
    rw [Nat.zero_add, h.cell j, ← Array.getElem?_toList]
    exact hv) Tryz.underlying38 rfl (by kernel_rfl)
  exact this
theorem run_loadR (h : RIs w q) : (loadR (.pointer (some ⟨q, 0, none⟩))).run Tryz.prog w = .ok (.agg (cellsAt w q)) w := by
  obtain ⟨p, n, c, s, h⟩ := h
  rw [h.cells]
  unfold loadR
  simp only [Instr.loadAt, Instr.sureAddr, Sem.run_bind, Sem.run_pure, Result.andThen_ok, loadVar_R h]
theorem rC_one (p : Option Addr) (n c : Nat) (s : St) : (rC p n c s).all (·.oneCell') = true := by simp [rC, Value.oneCell']
theorem run_storeR {cs : Array Value} (h : RIs w q) (hv : RVal cs) : (storeR (.pointer (some ⟨q, 0, none⟩)) (.agg cs)).run Tryz.prog w = .ok () (w.setRow q cs) := by
  obtain ⟨p, n, c, s, h⟩ := h
  obtain ⟨p', n', c', s', rfl⟩ := hv
  unfold storeR
  simp only [Instr.storeAt, Instr.sureAddr, Sem.run_bind, Sem.run_pure, Result.andThen_ok, run_storeVar_row (P := Tryz.prog) w q _ 38 _ (rC p' n' c' s') h (by kernel_rfl) rfl (rC_one p' n' c' s')]
end Go.Proofs.YtlbihcpglcdmmaaGreat
namespace Go.Proofs.YtlbihcpglcdmmaaGreat
open Go.RowKit

attribute [local go_sem ↓] to_loadR to_storeR
attribute [local go_sem] run_loadR run_storeR rval
variable {w w' : World} {q n c : Nat} {p : Option Addr} {s s' : St}
set_option maxRecDepth 100000 in
set_option maxHeartbeats 8000000 in
theorem rheld_any (p : Option Addr) (n c : Nat) (s : St) (w : World) : Calls Tryz.prog 53 #[.agg (rC p n c s)] w fun e w' => e = .returned (.int .i64 (s.S.size : Int)) ∧ Below w.heap.size w w' := by
  have ha := rat_alloc w p n c s
  have hb := Lib.hid (show Below w.heap.size w (w.alloc (.cells (rC p n c s) 38)) from (Below.refl _ _).alloc (Nat.le_refl _) _)
  obtain ⟨W0, hW0⟩ : ∃ W0, w.alloc (.cells (rC p n c s) 38) = W0 := ⟨_, rfl⟩
  rw [hW0] at ha hb
  have x11 : W0.cell? ⟨w.heap.size, 11, none⟩ = some (.string s.S) := ha.cell 11
  have hlt := ha.lt
  clear ha
  go_enter Tryz.func53, Tryz.ntmps53
  go_wp2_with fail
  try rw [Exit.noGoto_ret]
  go_ret
  exact ⟨rfl, hb.out⟩
set_option maxRecDepth 100000 in
set_option maxHeartbeats 8000000 in
theorem rfree_0 (p : Option Addr) (n c : Nat) (s : St) (w : World) (h : s.room < (s.S.size : Int)) : Calls Tryz.prog 51 #[.agg (rC p n c s)] w fun e w' => e = .returned (.int .i64 0) ∧ Below w.heap.size w w' := by
  have hd : decide (s.room < (s.S.size : Int)) = true := by simpa using h
  clear h
  have ha := rat_alloc w p n c s
  have hb := Lib.hid (show Below w.heap.size w (w.alloc (.cells (rC p n c s) 38)) from (Below.refl _ _).alloc (Nat.le_refl _) _)
  obtain ⟨W0, hW0⟩ : ∃ W0, w.alloc (.cells (rC p n c s) 38) = W0 := ⟨_, rfl⟩
  rw [hW0] at ha hb
  have hlt := ha.lt
  have HR := Lib.hid ha.drew
  have i1 := ha.is
  have k1 := ha.cells
  have i2 := ha.drew.is
  have k2 := ha.drew.cells
  have x14 : W0.cell? ⟨w.heap.size, 14, none⟩ = some (.int .i64 s.room) := ha.cell 14
  have HH := Lib.hid (fun W => rheld_any p n c s W)
  clear ha
  go_enter Tryz.func51, Tryz.ntmps51
  go_wp2_with fail
  clear hW0
  go_region_law
    (first
      | (go_simp; go_at_call 53; (with_reducible refine Calls.mono (HH.out _) ?_); rintro e w1 ⟨rfl, hb1⟩; have y14 : w1.cell? ⟨w.heap.size, 14, none⟩ = some (.int .i64 s.room) := (HR.out.on hb1).cell 14))
  all_goals (
    have HR1 := Lib.hid (HR.out.on hb1)
    have HB1 := Lib.hid ((hb.out.drew).trans (hb1.mono hb.out.size))
    try clear y14
    clear hb1 i1 k1 i2 k2 x14 hlt
    go_wp2_with fail
    try rw [Exit.noGoto_ret]
    go_ret
    exact ⟨rfl, HB1.out⟩)
set_option maxRecDepth 100000 in
set_option maxHeartbeats 8000000 in
theorem rfree_1 (p : Option Addr) (n c : Nat) (s : St) (w : World) (h : ¬ s.room < (s.S.size : Int)) (hw : IntKind.i64.wrap (s.room - (s.S.size : Int)) = s.room - (s.S.size : Int)) : Calls Tryz.prog 51 #[.agg (rC p n c s)] w fun e w' => e = .returned (.int .i64 (s.room - (s.S.size : Int))) ∧ Below w.heap.size w w' := by
  have hd : decide (s.room < (s.S.size : Int)) = false := by simpa using h
  clear h
  have ha := rat_alloc w p n c s
  have hb := Lib.hid (show Below w.heap.size w (w.alloc (.cells (rC p n c s) 38)) from (Below.refl _ _).alloc (Nat.le_refl _) _)
  obtain ⟨W0, hW0⟩ : ∃ W0, w.alloc (.cells (rC p n c s) 38) = W0 := ⟨_, rfl⟩
  rw [hW0] at ha hb
  have hlt := ha.lt
  have HR := Lib.hid ha.drew
  have i1 := ha.is
  have k1 := ha.cells
  have i2 := ha.drew.is
  have k2 := ha.drew.cells
  have x14 : W0.cell? ⟨w.heap.size, 14, none⟩ = some (.int .i64 s.room) := ha.cell 14
  have HH := Lib.hid (fun W => rheld_any p n c s W)
  clear ha
  go_enter Tryz.func51, Tryz.ntmps51
  go_wp2_with fail
  clear hW0
  go_region_law
    (first
      | (go_simp; go_at_call 53; (with_reducible refine Calls.mono (HH.out _) ?_); rintro e w1 ⟨rfl, hb1⟩; have y14 : w1.cell? ⟨w.heap.size, 14, none⟩ = some (.int .i64 s.room) := (HR.out.on hb1).cell 14))
  all_goals (
    have HR1 := Lib.hid (HR.out.on hb1)
    have HB1 := Lib.hid ((hb.out.drew).trans (hb1.mono hb.out.size))
    try clear y14
    clear hb1 i1 k1 i2 k2 x14 hlt
    go_wp2_with fail
    have hlt := HR1.out.lt
    have j1 := HR1.out.is
    have m1 := HR1.out.cells
    have j2 := HR1.out.drew.is
    have m2 := HR1.out.drew.cells
    have x14 : w1.cell? ⟨w.heap.size, 14, none⟩ = some (.int .i64 s.room) := HR1.out.cell 14
    have HR2 := Lib.hid HR1.out.drew
    go_region_law
      (first
        | (go_simp; go_at_call 53; (with_reducible refine Calls.mono (HH.out _) ?_); rintro e w2 ⟨rfl, hb2⟩; have z14 : w2.cell? ⟨w.heap.size, 14, none⟩ = some (.int .i64 s.room) := (HR2.out.on hb2).cell 14)))
  all_goals (
    have HB2 := Lib.hid ((HB1.out.drew).trans (hb2.mono HB1.out.size))
    clear hb2
    go_wp2_with fail
    try rw [Exit.noGoto_ret]
    go_ret
    exact ⟨rfl, HB2.out⟩)
theorem rfree_any (p : Option Addr) (n c : Nat) (s : St) (w : World) (h0 : 0 ≤ s.room ∧ s.room ≤ 4096) : Calls Tryz.prog 51 #[.agg (rC p n c s)] w fun e w' => e = .returned (.int .i64 (freeS s)) ∧ Below w.heap.size w w' := by
  unfold freeS
  by_cases h : s.room < (s.S.size : Int)
  · rw [if_pos h]
    exact rfree_0 p n c s w h
  · rw [if_neg h]
    exact rfree_1 p n c s w h (by rw [IntKind.wrap_i64]; omega)
end Go.Proofs.YtlbihcpglcdmmaaGreat
namespace Go.Proofs.YtlbihcpglcdmmaaGreat
open Go.RowKit

attribute [local go_sem ↓] to_loadR to_storeR
attribute [local go_sem] run_loadR run_storeR rval
variable {w w' : World} {q n c : Nat} {p : Option Addr} {s s' : St}
theorem two_alloc (p : Option Addr) (n c : Nat) (s : St) (w : World) : ∃ W0, (w.alloc (.cells (rC p n c s) 38)).alloc (.cells (rC none 0 0 noSt) 38) = W0 ∧ RAt W0 w.heap.size p n c s ∧ RAt W0 (w.heap.size + 1) none 0 0 noSt ∧ Below w.heap.size w W0 := by
  have h0 := rat_alloc w p n c s
  have h1 := rat_alloc (w.alloc (.cells (rC p n c s) 38)) none 0 0 noSt
  have hb0 : Below w.heap.size w (w.alloc (.cells (rC p n c s) 38)) := (Below.refl _ _).alloc (Nat.le_refl _) _
  have hb1 : Below (w.alloc (.cells (rC p n c s) 38)).heap.size (w.alloc (.cells (rC p n c s) 38)) ((w.alloc (.cells (rC p n c s) 38)).alloc (.cells (rC none 0 0 noSt) 38)) := (Below.refl _ _).alloc (Nat.le_refl _) _
  have e : (w.alloc (.cells (rC p n c s) 38)).heap.size = w.heap.size + 1 := by simp
  rw [e] at h1
  exact ⟨_, rfl, h0.on hb1, h1, gb.seqB hb0 hb1⟩
theorem st_id {s : St} (h : s.st = 0) : ({ s with st := 0 } : St) = s := by rw [← h]
theorem look_if (s : St) (now : Int) : (if (heardS s now).st ≠ 0 then heardS s now else { heardS s now with st := foundS (heardS s now) }) = lookS s now := by
  by_cases h : s.st = 0
  · rw [if_neg (show ¬ (heardS s now).st ≠ 0 from fun h' => h' h), look_yes s now h]
  · rw [if_pos (show (heardS s now).st ≠ 0 from h), look_no s now h]
set_option maxRecDepth 100000 in
set_option maxHeartbeats 8000000 in
theorem rlook_t (p : Option Addr) (n c : Nat) (s : St) (now : Int) (w : World) (hc : s.clock < gb.near now) {s1 : St} (hs1 : heardS s now = s1) {L : St} (hL : (if s1.st ≠ 0 then s1 else { s1 with st := foundS s1 }) = L) : Calls Tryz.prog 26 #[.agg (rC p n c s), .int .i64 now] w fun e w' => e = .returned (.agg (rC p n c L)) ∧ Below w.heap.size w w' := by
  have HNR := Lib.hid (fun W => gb.rnear_any now W)
  obtain ⟨W0, hW0, hq, hr, hb⟩ := two_alloc p n c s w
  have hW0 : (w.alloc (.cells (rC p n c s) 38)).alloc (.cells #[.string ⟨#[]⟩, .int .i64 0, .bool false, .int .i64 0, .int .i64 0, .int .i64 0, .int .u64 0, .int .i64 0, .int .i64 0, .int .i64 0, .int .i64 0, .string ⟨#[]⟩, .slice none 0 0, .int .i64 0, .int .i64 0, .int .i64 0, .int .i64 0, .int .i64 0, .int .i64 0, .bool false, .int .i64 0, .int .i64 0] 38) = W0 := hW0
  have x16 : W0.cell? ⟨w.heap.size, 16, none⟩ = some (.int .i64 s.clock) := hq.cell 16
  have f16 : W0.frozen? ⟨w.heap.size, 16, none⟩ = false := hq.frz 16
  have hlt := hr.lt
  have hd : decide (s.clock < gb.near now) = true := by simpa using hc
  have he : s1 = { s with clock := gb.near now } := by rw [← hs1]; unfold heardS tickS; rw [if_pos hc]
  have hq1 : RAt (W0.setCell ⟨w.heap.size, 16, none⟩ (.int .i64 (gb.near now))) w.heap.size p n c s1 := by rw [he]; exact hq.set rfl
  clear he
  have HB := Lib.hid (hb.setCell (p := ⟨w.heap.size, 16, none⟩) (Nat.le_refl _) (.int .i64 (gb.near now)))
  have HQ := Lib.hid hq1
  have HR := Lib.hid (hr.far (g := w.heap.size) (i := 16) (.int .i64 (gb.near now)) (Nat.succ_ne_self _))
  have HL := Lib.hid hL
  clear hq hq1 hr hb hs1 hL
  go_enter Tryz.func26, Tryz.ntmps26
  go_wp2_with fail
  clear hW0
  refine (HNR.out _).mono ?_
  rintro e w0 ⟨rfl, rfl⟩
  go_upto_region 4 with fail
  clear hd
  generalize W0.setCell ⟨w.heap.size, 16, none⟩ (.int .i64 (gb.near now)) = w1 at *
  clear x16 f16 hlt HNR hc
  by_cases hst : s1.st = 0
  · have HL2 := Lib.hid (HL.out.symm.trans (if_neg (fun h : s1.st ≠ 0 => h hst)))
    have HST := Lib.hid hst
    have HA := Lib.hid (fun W => show Calls Tryz.prog 52 #[.int .i64 s1.began, .int .i64 s1.tx.a] W fun e w' => e = .returned (.int .i64 (addT s1.began s1.tx.a)) ∧ W = w' from gb.radd_any s1.began s1.tx.a W)
    have x21 : w1.cell? ⟨w.heap.size, 21, none⟩ = some (.int .i64 s1.st) := HQ.out.cell 21
    rw [hst] at x21
    have x16 : w1.cell? ⟨w.heap.size, 16, none⟩ = some (.int .i64 s1.clock) := HQ.out.cell 16
    have x15 : w1.cell? ⟨w.heap.size, 15, none⟩ = some (.int .i64 s1.began) := HQ.out.cell 15
    have x4 : w1.cell? ⟨w.heap.size, 4, none⟩ = some (.int .i64 s1.tx.a) := HQ.out.cell 4
    have hlt := HR.out.lt
    obtain ⟨o, ho⟩ : ∃ o, decide (addT s1.began s1.tx.a ≤ s1.clock) = o := ⟨_, rfl⟩
    have HO := Lib.hid ho
    clear hst
    go_wp2_with fail
    go_quiet ((go_at_call 52; exact gc.quiet_left (HA.out _)))
    have HQ2 := Lib.hid (show RAt (w1.drewN nq) w.heap.size p n c s1 from HQ.out)
    have HR2 := Lib.hid (show RAt (w1.drewN nq) (w.heap.size + 1) none 0 0 noSt from HR.out)
    have HB2 := Lib.hid (show Below w.heap.size w (w1.drewN nq) from below_drewN HB.out nq)
    generalize w1.drewN nq = w2 at *
    clear x21 x16 x15 x4 hlt HQ HR HB HL HA ho
    have hF : foundS s1 = if s1.tx.k = 5 ∧ o = true then (2 : Int) else if s1.tx.k = 4 then (if o = true then 1 else 0) else if s1.tx.k = 6 ∧ s1.tx.a ≤ s1.passed then 1 else if s1.closed = true ∧ s1.S.size = 0 ∧ (s1.tx.k ≠ 7 ∨ addT s1.at' s1.tx.a ≤ s1.clock) then 1 else 0 := by
      rw [← HO.out]
      unfold foundS
      simp only [decide_eq_true_eq]
    have HF := Lib.hid hF
    clear hF HO
    by_cases k5 : s1.tx.k = 5
    · have KL := Lib.hid k5
      have X1 := k5
      have x1 : w2.cell? ⟨w.heap.size, 1, none⟩ = some (.int .i64 s1.tx.k) := HQ2.out.cell 1
      rw [k5] at x1
      clear k5 X1
      have X1 := True.intro
      cases o with
      | true =>
        have x21 : w2.cell? ⟨w.heap.size, 21, none⟩ = some (.int .i64 s1.st) := HQ2.out.cell 21
        have f21 : w2.frozen? ⟨w.heap.size, 21, none⟩ = false := HQ2.out.frz 21
        have HQ9 := Lib.hid (HQ2.out.set (i := 21) (v := .int .i64 2) (s' := { s1 with st := 2 }) (p' := p) (n' := n) (c' := c) rfl)
        have HR9 := Lib.hid (HR2.out.far (g := w.heap.size) (i := 21) (.int .i64 2) (Nat.succ_ne_self _))
        have HB9 := Lib.hid (HB2.out.setCell (p := ⟨w.heap.size, 21, none⟩) (Nat.le_refl _) (.int .i64 2))
        go_upto_region 9 with fail
        generalize w2.setCell ⟨w.heap.size, 21, none⟩ (.int .i64 2) = w9 at *
        clear x21 f21 x1
        have i1 := HQ9.out.is
        have k1 := HQ9.out.cells
        have i2 := HR9.out.is
        have hlt := HR9.out.lt
        go_wp2_with fail
        have hz := HR9.out.row p n c { s1 with st := 2 }
        have hb := below_setRow HB9.out (Nat.le_succ w.heap.size) (rC p n c { s1 with st := 2 })
        have HZ := Lib.hid hz
        have HE := Lib.hid hb
        clear hz hb
        generalize w9.setRow (w.heap.size + 1) (rC p n c { s1 with st := 2 }) = wz at *
        exact bodyPost_ret (v := .agg (rC p n c { s1 with st := 2 })) (by simp [results, Tryz.results26, asAddr, loadVar_R HZ.out]) rfl ⟨(by rw [HL2.out, show foundS s1 = 2 by rw [HF.out]; simp [KL.out]]), HE.out⟩
      | false =>
        cases hcl : s1.closed with
        | false =>
          have x19 : w2.cell? ⟨w.heap.size, 19, none⟩ = some (.bool s1.closed) := HQ2.out.cell 19
          rw [hcl] at x19
          have HCL := Lib.hid hcl
          clear hcl
          go_upto_region 20 with fail
          clear x19
          have i1 := HQ2.out.is
          have k1 := HQ2.out.cells
          have i2 := HR2.out.is
          have hlt := HR2.out.lt
          go_wp2_with fail
          have hz := HR2.out.row p n c s1
          have hb := below_setRow HB2.out (Nat.le_succ w.heap.size) (rC p n c s1)
          have HZ := Lib.hid hz
          have HE := Lib.hid hb
          clear hz hb
          generalize w2.setRow (w.heap.size + 1) (rC p n c s1) = wz at *
          exact bodyPost_ret (v := .agg (rC p n c s1)) (by simp [results, Tryz.results26, asAddr, loadVar_R HZ.out]) rfl ⟨(by rw [HL2.out, show foundS s1 = 0 by rw [HF.out]; simp [KL.out, HCL.out]]; rw [st_id HST.out]), HE.out⟩
        | true =>
          have x19 : w2.cell? ⟨w.heap.size, 19, none⟩ = some (.bool s1.closed) := HQ2.out.cell 19
          rw [hcl] at x19
          have HCL := Lib.hid hcl
          have HHD := Lib.hid (fun W => rheld_any p n c s1 W)
          clear hcl
          have i1 := HQ2.out.is
          have k1 := HQ2.out.cells
          have hlt := HR2.out.lt
          go_wp2_with fail
          refine (HHD.out _).mono ?_
          rintro e w3 ⟨rfl, hb3⟩
          have HQ3 := Lib.hid (HQ2.out.on hb3)
          have HR3 := Lib.hid (HR2.out.on hb3)
          have HB3 := Lib.hid (gb.seqB HB2.out hb3)
          clear hb3 x19 i1 k1 hlt HQ2 HR2 HB2 HHD X1
          by_cases hS : s1.S.size = 0
          · have HS := Lib.hid hS
            have h0 : ((s1.S.size : Nat) : Int) = 0 := by omega
            rw [h0]
            clear hS h0
            have x1 : w3.cell? ⟨w.heap.size, 1, none⟩ = some (.int .i64 s1.tx.k) := HQ3.out.cell 1
            have hlt := HR3.out.lt
            rw [KL.out] at x1
            go_wp2_with fail
            go_quiet (fail)
            have HQ4 := Lib.hid (show RAt (w3.drewN nq) w.heap.size p n c s1 from HQ3.out)
            have HR4 := Lib.hid (show RAt (w3.drewN nq) (w.heap.size + 1) none 0 0 noSt from HR3.out)
            have HB4 := Lib.hid (show Below w.heap.size w (w3.drewN nq) from below_drewN HB3.out nq)
            generalize w3.drewN nq = w4 at *
            clear x1 hlt HQ3 HR3 HB3
            have x21 : w4.cell? ⟨w.heap.size, 21, none⟩ = some (.int .i64 s1.st) := HQ4.out.cell 21
            have f21 : w4.frozen? ⟨w.heap.size, 21, none⟩ = false := HQ4.out.frz 21
            have HQ9 := Lib.hid (HQ4.out.set (i := 21) (v := .int .i64 1) (s' := { s1 with st := 1 }) (p' := p) (n' := n) (c' := c) rfl)
            have HR9 := Lib.hid (HR4.out.far (g := w.heap.size) (i := 21) (.int .i64 1) (Nat.succ_ne_self _))
            have HB9 := Lib.hid (HB4.out.setCell (p := ⟨w.heap.size, 21, none⟩) (Nat.le_refl _) (.int .i64 1))
            go_upto_region 20 with fail
            generalize w4.setCell ⟨w.heap.size, 21, none⟩ (.int .i64 1) = w9 at *
            clear x21 f21
            have i1 := HQ9.out.is
            have k1 := HQ9.out.cells
            have i2 := HR9.out.is
            have hlt := HR9.out.lt
            go_wp2_with fail
            have hz := HR9.out.row p n c { s1 with st := 1 }
            have hb := below_setRow HB9.out (Nat.le_succ w.heap.size) (rC p n c { s1 with st := 1 })
            have HZ := Lib.hid hz
            have HE := Lib.hid hb
            clear hz hb
            generalize w9.setRow (w.heap.size + 1) (rC p n c { s1 with st := 1 }) = wz at *
            exact bodyPost_ret (v := .agg (rC p n c { s1 with st := 1 })) (by simp [results, Tryz.results26, asAddr, loadVar_R HZ.out]) rfl ⟨(by rw [HL2.out, show foundS s1 = 1 by rw [HF.out]; simp [KL.out, HCL.out, HS.out]]), HE.out⟩
          · have hs1 : (s1.S.size == 0) = false := by simpa using hS
            have hs2 : decide (s1.S.size = 0) = false := by simpa using hS
            have hs3 : (((s1.S.size : Nat) : Int) == 0) = false := by simp [hS]
            have HS := Lib.hid hS
            clear hS
            go_upto_region 20 with fail
            clear hs1 hs2 hs3
            have i1 := HQ3.out.is
            have k1 := HQ3.out.cells
            have i2 := HR3.out.is
            have hlt := HR3.out.lt
            go_wp2_with fail
            have hz := HR3.out.row p n c s1
            have hb := below_setRow HB3.out (Nat.le_succ w.heap.size) (rC p n c s1)
            have HZ := Lib.hid hz
            have HE := Lib.hid hb
            clear hz hb
            generalize w3.setRow (w.heap.size + 1) (rC p n c s1) = wz at *
            exact bodyPost_ret (v := .agg (rC p n c s1)) (by simp [results, Tryz.results26, asAddr, loadVar_R HZ.out]) rfl ⟨(by rw [HL2.out, show foundS s1 = 0 by rw [HF.out]; simp [KL.out, HCL.out, HS.out]]; rw [st_id HST.out]), HE.out⟩
    by_cases k4 : s1.tx.k = 4
    · have KL := Lib.hid k4
      have x1 : w2.cell? ⟨w.heap.size, 1, none⟩ = some (.int .i64 s1.tx.k) := HQ2.out.cell 1
      rw [k4] at x1
      clear k4
      cases o with
      | true =>
        have x21 : w2.cell? ⟨w.heap.size, 21, none⟩ = some (.int .i64 s1.st) := HQ2.out.cell 21
        have f21 : w2.frozen? ⟨w.heap.size, 21, none⟩ = false := HQ2.out.frz 21
        have HQ9 := Lib.hid (HQ2.out.set (i := 21) (v := .int .i64 1) (s' := { s1 with st := 1 }) (p' := p) (n' := n) (c' := c) rfl)
        have HR9 := Lib.hid (HR2.out.far (g := w.heap.size) (i := 21) (.int .i64 1) (Nat.succ_ne_self _))
        have HB9 := Lib.hid (HB2.out.setCell (p := ⟨w.heap.size, 21, none⟩) (Nat.le_refl _) (.int .i64 1))
        go_upto_region 13 with fail
        generalize w2.setCell ⟨w.heap.size, 21, none⟩ (.int .i64 1) = w9 at *
        clear x21 f21 x1
        have i1 := HQ9.out.is
        have k1 := HQ9.out.cells
        have i2 := HR9.out.is
        have hlt := HR9.out.lt
        go_wp2_with fail
        have hz := HR9.out.row p n c { s1 with st := 1 }
        have hb := below_setRow HB9.out (Nat.le_succ w.heap.size) (rC p n c { s1 with st := 1 })
        have HZ := Lib.hid hz
        have HE := Lib.hid hb
        clear hz hb
        generalize w9.setRow (w.heap.size + 1) (rC p n c { s1 with st := 1 }) = wz at *
        exact bodyPost_ret (v := .agg (rC p n c { s1 with st := 1 })) (by simp [results, Tryz.results26, asAddr, loadVar_R HZ.out]) rfl ⟨(by rw [HL2.out, show foundS s1 = 1 by rw [HF.out]; simp [KL.out]]), HE.out⟩
      | false =>
        go_upto_region 13 with fail
        clear x1
        have i1 := HQ2.out.is
        have k1 := HQ2.out.cells
        have i2 := HR2.out.is
        have hlt := HR2.out.lt
        go_wp2_with fail
        have hz := HR2.out.row p n c s1
        have hb := below_setRow HB2.out (Nat.le_succ w.heap.size) (rC p n c s1)
        have HZ := Lib.hid hz
        have HE := Lib.hid hb
        clear hz hb
        generalize w2.setRow (w.heap.size + 1) (rC p n c s1) = wz at *
        exact bodyPost_ret (v := .agg (rC p n c s1)) (by simp [results, Tryz.results26, asAddr, loadVar_R HZ.out]) rfl ⟨(by rw [HL2.out, show foundS s1 = 0 by rw [HF.out]; simp [KL.out]]; rw [st_id HST.out]), HE.out⟩
    by_cases k6 : s1.tx.k = 6
    · have KL := Lib.hid k6
      have X1 := True.intro
      have x1 : w2.cell? ⟨w.heap.size, 1, none⟩ = some (.int .i64 s1.tx.k) := HQ2.out.cell 1
      rw [k6] at x1
      have x18 : w2.cell? ⟨w.heap.size, 18, none⟩ = some (.int .i64 s1.passed) := HQ2.out.cell 18
      have x4 : w2.cell? ⟨w.heap.size, 4, none⟩ = some (.int .i64 s1.tx.a) := HQ2.out.cell 4
      clear k6
      by_cases hp : s1.tx.a ≤ s1.passed
      · have hd : decide (s1.tx.a ≤ s1.passed) = true := by simpa using hp
        have HP := Lib.hid hp
        clear hp
        have x21 : w2.cell? ⟨w.heap.size, 21, none⟩ = some (.int .i64 s1.st) := HQ2.out.cell 21
        have f21 : w2.frozen? ⟨w.heap.size, 21, none⟩ = false := HQ2.out.frz 21
        have HQ9 := Lib.hid (HQ2.out.set (i := 21) (v := .int .i64 1) (s' := { s1 with st := 1 }) (p' := p) (n' := n) (c' := c) rfl)
        have HR9 := Lib.hid (HR2.out.far (g := w.heap.size) (i := 21) (.int .i64 1) (Nat.succ_ne_self _))
        have HB9 := Lib.hid (HB2.out.setCell (p := ⟨w.heap.size, 21, none⟩) (Nat.le_refl _) (.int .i64 1))
        go_upto_region 16 with fail
        generalize w2.setCell ⟨w.heap.size, 21, none⟩ (.int .i64 1) = w9 at *
        clear x21 f21 x1 x18 x4 hd
        have i1 := HQ9.out.is
        have k1 := HQ9.out.cells
        have i2 := HR9.out.is
        have hlt := HR9.out.lt
        go_wp2_with fail
        have hz := HR9.out.row p n c { s1 with st := 1 }
        have hb := below_setRow HB9.out (Nat.le_succ w.heap.size) (rC p n c { s1 with st := 1 })
        have HZ := Lib.hid hz
        have HE := Lib.hid hb
        clear hz hb
        generalize w9.setRow (w.heap.size + 1) (rC p n c { s1 with st := 1 }) = wz at *
        exact bodyPost_ret (v := .agg (rC p n c { s1 with st := 1 })) (by simp [results, Tryz.results26, asAddr, loadVar_R HZ.out]) rfl ⟨(by rw [HL2.out, show foundS s1 = 1 by rw [HF.out]; simp [KL.out, HP.out]]), HE.out⟩
      · have hd : decide (s1.tx.a ≤ s1.passed) = false := by simpa using hp
        have HP := Lib.hid hp
        clear hp
        cases hcl : s1.closed with
        | false =>
          have x19 : w2.cell? ⟨w.heap.size, 19, none⟩ = some (.bool s1.closed) := HQ2.out.cell 19
          rw [hcl] at x19
          have HCL := Lib.hid hcl
          clear hcl
          go_upto_region 20 with fail
          clear x19
          have i1 := HQ2.out.is
          have k1 := HQ2.out.cells
          have i2 := HR2.out.is
          have hlt := HR2.out.lt
          go_wp2_with fail
          have hz := HR2.out.row p n c s1
          have hb := below_setRow HB2.out (Nat.le_succ w.heap.size) (rC p n c s1)
          have HZ := Lib.hid hz
          have HE := Lib.hid hb
          clear hz hb
          generalize w2.setRow (w.heap.size + 1) (rC p n c s1) = wz at *
          exact bodyPost_ret (v := .agg (rC p n c s1)) (by simp [results, Tryz.results26, asAddr, loadVar_R HZ.out]) rfl ⟨(by rw [HL2.out, show foundS s1 = 0 by rw [HF.out]; simp [KL.out, HP.out, HCL.out]]; rw [st_id HST.out]), HE.out⟩
        | true =>
          have x19 : w2.cell? ⟨w.heap.size, 19, none⟩ = some (.bool s1.closed) := HQ2.out.cell 19
          rw [hcl] at x19
          have HCL := Lib.hid hcl
          have HHD := Lib.hid (fun W => rheld_any p n c s1 W)
          clear hcl
          have i1 := HQ2.out.is
          have k1 := HQ2.out.cells
          have hlt := HR2.out.lt
          go_wp2_with fail
          refine (HHD.out _).mono ?_
          rintro e w3 ⟨rfl, hb3⟩
          have HQ3 := Lib.hid (HQ2.out.on hb3)
          have HR3 := Lib.hid (HR2.out.on hb3)
          have HB3 := Lib.hid (gb.seqB HB2.out hb3)
          clear hb3 x19 i1 k1 hlt HQ2 HR2 HB2 HHD X1
          by_cases hS : s1.S.size = 0
          · have HS := Lib.hid hS
            have h0 : ((s1.S.size : Nat) : Int) = 0 := by omega
            rw [h0]
            clear hS h0
            have x1 : w3.cell? ⟨w.heap.size, 1, none⟩ = some (.int .i64 s1.tx.k) := HQ3.out.cell 1
            have hlt := HR3.out.lt
            rw [KL.out] at x1
            go_wp2_with fail
            go_quiet (fail)
            have HQ4 := Lib.hid (show RAt (w3.drewN nq) w.heap.size p n c s1 from HQ3.out)
            have HR4 := Lib.hid (show RAt (w3.drewN nq) (w.heap.size + 1) none 0 0 noSt from HR3.out)
            have HB4 := Lib.hid (show Below w.heap.size w (w3.drewN nq) from below_drewN HB3.out nq)
            generalize w3.drewN nq = w4 at *
            clear x1 hlt HQ3 HR3 HB3
            have x21 : w4.cell? ⟨w.heap.size, 21, none⟩ = some (.int .i64 s1.st) := HQ4.out.cell 21
            have f21 : w4.frozen? ⟨w.heap.size, 21, none⟩ = false := HQ4.out.frz 21
            have HQ9 := Lib.hid (HQ4.out.set (i := 21) (v := .int .i64 1) (s' := { s1 with st := 1 }) (p' := p) (n' := n) (c' := c) rfl)
            have HR9 := Lib.hid (HR4.out.far (g := w.heap.size) (i := 21) (.int .i64 1) (Nat.succ_ne_self _))
            have HB9 := Lib.hid (HB4.out.setCell (p := ⟨w.heap.size, 21, none⟩) (Nat.le_refl _) (.int .i64 1))
            go_upto_region 20 with fail
            generalize w4.setCell ⟨w.heap.size, 21, none⟩ (.int .i64 1) = w9 at *
            clear x21 f21
            have i1 := HQ9.out.is
            have k1 := HQ9.out.cells
            have i2 := HR9.out.is
            have hlt := HR9.out.lt
            go_wp2_with fail
            have hz := HR9.out.row p n c { s1 with st := 1 }
            have hb := below_setRow HB9.out (Nat.le_succ w.heap.size) (rC p n c { s1 with st := 1 })
            have HZ := Lib.hid hz
            have HE := Lib.hid hb
            clear hz hb
            generalize w9.setRow (w.heap.size + 1) (rC p n c { s1 with st := 1 }) = wz at *
            exact bodyPost_ret (v := .agg (rC p n c { s1 with st := 1 })) (by simp [results, Tryz.results26, asAddr, loadVar_R HZ.out]) rfl ⟨(by rw [HL2.out, show foundS s1 = 1 by rw [HF.out]; simp [KL.out, HCL.out, HS.out]]), HE.out⟩
          · have hs1 : (s1.S.size == 0) = false := by simpa using hS
            have hs2 : decide (s1.S.size = 0) = false := by simpa using hS
            have hs3 : (((s1.S.size : Nat) : Int) == 0) = false := by simp [hS]
            have HS := Lib.hid hS
            clear hS
            go_upto_region 20 with fail
            clear hs1 hs2 hs3
            have i1 := HQ3.out.is
            have k1 := HQ3.out.cells
            have i2 := HR3.out.is
            have hlt := HR3.out.lt
            go_wp2_with fail
            have hz := HR3.out.row p n c s1
            have hb := below_setRow HB3.out (Nat.le_succ w.heap.size) (rC p n c s1)
            have HZ := Lib.hid hz
            have HE := Lib.hid hb
            clear hz hb
            generalize w3.setRow (w.heap.size + 1) (rC p n c s1) = wz at *
            exact bodyPost_ret (v := .agg (rC p n c s1)) (by simp [results, Tryz.results26, asAddr, loadVar_R HZ.out]) rfl ⟨(by rw [HL2.out, show foundS s1 = 0 by rw [HF.out]; simp [KL.out, HP.out, HCL.out, HS.out]]; rw [st_id HST.out]), HE.out⟩
    have e5 : (s1.tx.k == 5) = false := by simpa using k5
    have e4 : (s1.tx.k == 4) = false := by simpa using k4
    have e6 : (s1.tx.k == 6) = false := by simpa using k6
    have d5 : decide (s1.tx.k = 5) = false := by simpa using k5
    have d4 : decide (s1.tx.k = 4) = false := by simpa using k4
    have d6 : decide (s1.tx.k = 6) = false := by simpa using k6
    have x1 : w2.cell? ⟨w.heap.size, 1, none⟩ = some (.int .i64 s1.tx.k) := HQ2.out.cell 1
    have X1 := True.intro
    have K5 := Lib.hid k5
    have K4 := Lib.hid k4
    have K6 := Lib.hid k6
    clear k5 k4 k6
    cases hcl : s1.closed with
    | false =>
      have x19 : w2.cell? ⟨w.heap.size, 19, none⟩ = some (.bool s1.closed) := HQ2.out.cell 19
      rw [hcl] at x19
      have HCL := Lib.hid hcl
      clear hcl
      go_upto_region 20 with fail
      clear x19
      have i1 := HQ2.out.is
      have k1 := HQ2.out.cells
      have i2 := HR2.out.is
      have hlt := HR2.out.lt
      go_wp2_with fail
      have hz := HR2.out.row p n c s1
      have hb := below_setRow HB2.out (Nat.le_succ w.heap.size) (rC p n c s1)
      have HZ := Lib.hid hz
      have HE := Lib.hid hb
      clear hz hb
      generalize w2.setRow (w.heap.size + 1) (rC p n c s1) = wz at *
      exact bodyPost_ret (v := .agg (rC p n c s1)) (by simp [results, Tryz.results26, asAddr, loadVar_R HZ.out]) rfl ⟨(by rw [HL2.out, show foundS s1 = 0 by rw [HF.out]; simp [K5.out, K4.out, K6.out, HCL.out]]; rw [st_id HST.out]), HE.out⟩
    | true =>
      have x19 : w2.cell? ⟨w.heap.size, 19, none⟩ = some (.bool s1.closed) := HQ2.out.cell 19
      rw [hcl] at x19
      have HCL := Lib.hid hcl
      have HHD := Lib.hid (fun W => rheld_any p n c s1 W)
      clear hcl
      have i1 := HQ2.out.is
      have k1 := HQ2.out.cells
      have hlt := HR2.out.lt
      go_wp2_with fail
      refine (HHD.out _).mono ?_
      rintro e w3 ⟨rfl, hb3⟩
      have HQ3 := Lib.hid (HQ2.out.on hb3)
      have HR3 := Lib.hid (HR2.out.on hb3)
      have HB3 := Lib.hid (gb.seqB HB2.out hb3)
      clear hb3 x19 i1 k1 hlt HQ2 HR2 HB2 HHD X1
      by_cases hS : s1.S.size = 0
      · have HS := Lib.hid hS
        have h0 : ((s1.S.size : Nat) : Int) = 0 := by omega
        rw [h0]
        clear hS h0
        have x1 : w3.cell? ⟨w.heap.size, 1, none⟩ = some (.int .i64 s1.tx.k) := HQ3.out.cell 1
        have hlt := HR3.out.lt
        by_cases k7 : s1.tx.k = 7
        · have H7 := Lib.hid k7
          rw [k7] at x1
          have x16 : w3.cell? ⟨w.heap.size, 16, none⟩ = some (.int .i64 s1.clock) := HQ3.out.cell 16
          have x20 : w3.cell? ⟨w.heap.size, 20, none⟩ = some (.int .i64 s1.at') := HQ3.out.cell 20
          have x4 : w3.cell? ⟨w.heap.size, 4, none⟩ = some (.int .i64 s1.tx.a) := HQ3.out.cell 4
          have HA2 := Lib.hid (fun W => show Calls Tryz.prog 52 #[.int .i64 s1.at', .int .i64 s1.tx.a] W fun e w' => e = .returned (.int .i64 (addT s1.at' s1.tx.a)) ∧ W = w' from gb.radd_any s1.at' s1.tx.a W)
          obtain ⟨o2, ho2⟩ : ∃ o2, decide (addT s1.at' s1.tx.a ≤ s1.clock) = o2 := ⟨_, rfl⟩
          have HO2 := Lib.hid ho2
          clear k7
          go_wp2_with fail
          go_quiet ((go_at_call 52; exact gc.quiet_left (HA2.out _)))
          have HQ4 := Lib.hid (show RAt (w3.drewN nq) w.heap.size p n c s1 from HQ3.out)
          have HR4 := Lib.hid (show RAt (w3.drewN nq) (w.heap.size + 1) none 0 0 noSt from HR3.out)
          have HB4 := Lib.hid (show Below w.heap.size w (w3.drewN nq) from below_drewN HB3.out nq)
          generalize w3.drewN nq = w4 at *
          clear x1 x16 x20 x4 hlt HQ3 HR3 HB3 ho2
          cases o2 with
          | true =>
            have x21 : w4.cell? ⟨w.heap.size, 21, none⟩ = some (.int .i64 s1.st) := HQ4.out.cell 21
            have f21 : w4.frozen? ⟨w.heap.size, 21, none⟩ = false := HQ4.out.frz 21
            have HQ9 := Lib.hid (HQ4.out.set (i := 21) (v := .int .i64 1) (s' := { s1 with st := 1 }) (p' := p) (n' := n) (c' := c) rfl)
            have HR9 := Lib.hid (HR4.out.far (g := w.heap.size) (i := 21) (.int .i64 1) (Nat.succ_ne_self _))
            have HB9 := Lib.hid (HB4.out.setCell (p := ⟨w.heap.size, 21, none⟩) (Nat.le_refl _) (.int .i64 1))
            go_upto_region 20 with fail
            generalize w4.setCell ⟨w.heap.size, 21, none⟩ (.int .i64 1) = w9 at *
            clear x21 f21
            have i1 := HQ9.out.is
            have k1 := HQ9.out.cells
            have i2 := HR9.out.is
            have hlt := HR9.out.lt
            go_wp2_with fail
            have hz := HR9.out.row p n c { s1 with st := 1 }
            have hb := below_setRow HB9.out (Nat.le_succ w.heap.size) (rC p n c { s1 with st := 1 })
            have HZ := Lib.hid hz
            have HE := Lib.hid hb
            clear hz hb
            generalize w9.setRow (w.heap.size + 1) (rC p n c { s1 with st := 1 }) = wz at *
            exact bodyPost_ret (v := .agg (rC p n c { s1 with st := 1 })) (by simp [results, Tryz.results26, asAddr, loadVar_R HZ.out]) rfl ⟨(by rw [HL2.out, show foundS s1 = 1 by rw [HF.out]; simp [HCL.out, HS.out, H7.out, of_decide_eq_true HO2.out]]), HE.out⟩
          | false =>
            go_upto_region 20 with fail
            have i1 := HQ4.out.is
            have k1 := HQ4.out.cells
            have i2 := HR4.out.is
            have hlt := HR4.out.lt
            go_wp2_with fail
            have hz := HR4.out.row p n c s1
            have hb := below_setRow HB4.out (Nat.le_succ w.heap.size) (rC p n c s1)
            have HZ := Lib.hid hz
            have HE := Lib.hid hb
            clear hz hb
            generalize w4.setRow (w.heap.size + 1) (rC p n c s1) = wz at *
            exact bodyPost_ret (v := .agg (rC p n c s1)) (by simp [results, Tryz.results26, asAddr, loadVar_R HZ.out]) rfl ⟨(by rw [HL2.out, show foundS s1 = 0 by rw [HF.out]; simp [HCL.out, HS.out, H7.out, of_decide_eq_false HO2.out]]; rw [st_id HST.out]), HE.out⟩
        · have e7 : (s1.tx.k != 7) = true := by simpa using k7
          have d7 : decide (s1.tx.k = 7) = false := by simpa using k7
          have H7 := Lib.hid k7
          clear k7
          go_wp2_with fail
          go_quiet (fail)
          have HQ4 := Lib.hid (show RAt (w3.drewN nq) w.heap.size p n c s1 from HQ3.out)
          have HR4 := Lib.hid (show RAt (w3.drewN nq) (w.heap.size + 1) none 0 0 noSt from HR3.out)
          have HB4 := Lib.hid (show Below w.heap.size w (w3.drewN nq) from below_drewN HB3.out nq)
          generalize w3.drewN nq = w4 at *
          clear x1 hlt HQ3 HR3 HB3
          have x21 : w4.cell? ⟨w.heap.size, 21, none⟩ = some (.int .i64 s1.st) := HQ4.out.cell 21
          have f21 : w4.frozen? ⟨w.heap.size, 21, none⟩ = false := HQ4.out.frz 21
          have HQ9 := Lib.hid (HQ4.out.set (i := 21) (v := .int .i64 1) (s' := { s1 with st := 1 }) (p' := p) (n' := n) (c' := c) rfl)
          have HR9 := Lib.hid (HR4.out.far (g := w.heap.size) (i := 21) (.int .i64 1) (Nat.succ_ne_self _))
          have HB9 := Lib.hid (HB4.out.setCell (p := ⟨w.heap.size, 21, none⟩) (Nat.le_refl _) (.int .i64 1))
          go_upto_region 20 with fail
          generalize w4.setCell ⟨w.heap.size, 21, none⟩ (.int .i64 1) = w9 at *
          clear x21 f21
          have i1 := HQ9.out.is
          have k1 := HQ9.out.cells
          have i2 := HR9.out.is
          have hlt := HR9.out.lt
          go_wp2_with fail
          have hz := HR9.out.row p n c { s1 with st := 1 }
          have hb := below_setRow HB9.out (Nat.le_succ w.heap.size) (rC p n c { s1 with st := 1 })
          have HZ := Lib.hid hz
          have HE := Lib.hid hb
          clear hz hb
          generalize w9.setRow (w.heap.size + 1) (rC p n c { s1 with st := 1 }) = wz at *
          exact bodyPost_ret (v := .agg (rC p n c { s1 with st := 1 })) (by simp [results, Tryz.results26, asAddr, loadVar_R HZ.out]) rfl ⟨(by rw [HL2.out, show foundS s1 = 1 by rw [HF.out]; simp [K5.out, K4.out, K6.out, HCL.out, HS.out, H7.out]]), HE.out⟩
      · have hs1 : (s1.S.size == 0) = false := by simpa using hS
        have hs2 : decide (s1.S.size = 0) = false := by simpa using hS
        have hs3 : (((s1.S.size : Nat) : Int) == 0) = false := by simp [hS]
        have HS := Lib.hid hS
        clear hS
        go_upto_region 20 with fail
        clear hs1 hs2 hs3
        have i1 := HQ3.out.is
        have k1 := HQ3.out.cells
        have i2 := HR3.out.is
        have hlt := HR3.out.lt
        go_wp2_with fail
        have hz := HR3.out.row p n c s1
        have hb := below_setRow HB3.out (Nat.le_succ w.heap.size) (rC p n c s1)
        have HZ := Lib.hid hz
        have HE := Lib.hid hb
        clear hz hb
        generalize w3.setRow (w.heap.size + 1) (rC p n c s1) = wz at *
        exact bodyPost_ret (v := .agg (rC p n c s1)) (by simp [results, Tryz.results26, asAddr, loadVar_R HZ.out]) rfl ⟨(by rw [HL2.out, show foundS s1 = 0 by rw [HF.out]; simp [K5.out, K4.out, K6.out, HCL.out, HS.out]]; rw [st_id HST.out]), HE.out⟩
  · have HL2 := Lib.hid (HL.out.symm.trans (if_pos hst))
    have e1 : (s1.st != 0) = true := by simpa using hst
    have e2 : decide (s1.st = 0) = false := by simpa using hst
    have x21 : w1.cell? ⟨w.heap.size, 21, none⟩ = some (.int .i64 s1.st) := HQ.out.cell 21
    clear hst HL
    go_upto_region 5 with fail
    clear x21 e1 e2
    have i1 := HQ.out.is
    have k1 := HQ.out.cells
    have i2 := HR.out.is
    have hlt := HR.out.lt
    go_wp2_with fail
    have hz := HR.out.row p n c s1
    have hb := below_setRow HB.out (Nat.le_succ w.heap.size) (rC p n c s1)
    have HZ := Lib.hid hz
    have HE := Lib.hid hb
    clear hz hb
    generalize w1.setRow (w.heap.size + 1) (rC p n c s1) = wz at *
    exact bodyPost_ret (v := .agg (rC p n c s1)) (by simp [results, Tryz.results26, asAddr, loadVar_R HZ.out]) rfl ⟨(by rw [HL2.out]), HE.out⟩
end Go.Proofs.YtlbihcpglcdmmaaGreat

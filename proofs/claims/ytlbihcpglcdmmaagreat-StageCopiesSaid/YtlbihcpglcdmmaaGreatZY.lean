/-
  Contract: what Copy of a stage hands back. Conditions: as each states.
  Contracts: New of the document, of what may not be. Conditions: as each states.
-/
import Derived.Test.YtlbihcpglcdmmaaGreatZJ
import Derived.Deep.MidRow
import Derived.Laws.CopyOwn
import Derived.Test.YtlbihcpglcdmmaaGreatZX
namespace Go.Proofs.YtlbihcpglcdmmaaGreat
open Go.RowKit

variable {w w' w'' w0 : World} {base g c M M' q : Nat} {u u' u'' : gc.U} {s s' s'' : St}
def PIs (w : World) (q : Nat) : Prop := ∃ cs, w.heap[q]? = some (.cells cs 58 (0, 0)) ∧ cs.size = 20
def pcells (w : World) (q : Nat) : Array Value := match w.heap[q]? with
  | some (.cells cs _ _) => cs
  | _ => #[]
def PVal (cs : Array Value) : Prop := cs.size = 20 ∧ cs.all (·.oneCell') = true
theorem pval (c : Nat) (s : St) : PVal (stC c s) := ⟨rfl, by simp [stC, Value.oneCell']⟩
theorem pcells_of {cs : Array Value} (h : w.heap[q]? = some (.cells cs 58 (0, 0))) : pcells w q = cs := by
  unfold pcells
  rw [h]
def loadP (v : Value) : Sem Value := Instr.loadAt 58 v
def storeP (v x : Value) : Sem Unit := Instr.storeAt 58 v x
theorem to_loadP (v : Value) : Instr.loadAt 58 v = loadP v := rfl
theorem to_storeP (v x : Value) : Instr.storeAt 58 v x = storeP v x := rfl
theorem size20 : (Tryz.prog.info? 58).map (·.size) = some 20 := by kernel_rfl
theorem run_loadP (h : PIs w q) : (loadP (.pointer (some ⟨q, 0, none⟩))).run Tryz.prog w = .ok (.agg (pcells w q)) w := by
  obtain ⟨cs, h, hs⟩ := h
  rw [pcells_of h]
  have := run_loadVar_mid (P := Tryz.prog) w q 0 58 cs.toList _ (fun j v hv => by
    have hc : w.cell? ⟨q, j, none⟩ = cs[j]? := by simp [World.cell?, h]
    rw [Nat.zero_add, hc, ← Array.getElem?_toList]
    exact hv) Tryz.underlying58 rfl (by rw [size20, Array.length_toList, hs])
  unfold loadP
  simp only [Instr.loadAt, Instr.sureAddr, Sem.run_bind, Sem.run_pure, Result.andThen_ok, this]
theorem run_storeP {cs : Array Value} (h : PIs w q) (hv : PVal cs) : (storeP (.pointer (some ⟨q, 0, none⟩)) (.agg cs)).run Tryz.prog w = .ok () (w.setRow q cs) := by
  obtain ⟨cs0, h, hs⟩ := h
  unfold storeP
  simp only [Instr.storeAt, Instr.sureAddr, Sem.run_bind, Sem.run_pure, Result.andThen_ok, run_storeVar_row (P := Tryz.prog) w q _ 58 _ cs h (by rw [size20, hv.1]) (by rw [hs, hv.1]) hv.2]
attribute [local go_sem ↓] to_loadP to_storeP
attribute [local go_sem] run_loadP run_storeP pval
def CopyOut (s : St) (M : Nat) (w : World) (e : Ending) (w' : World) : Prop := ∃ g c u, e = .returned (ptr g) ∧ Raw w' w.heap.size g c u s M ∧ Below w.heap.size w w'
set_option maxRecDepth 100000 in
set_option maxHeartbeats 8000000 in
theorem copy_any (h : Raw w base g c u s M) : Calls Tryz.prog 10 #[ptr g] w (CopyOut s M w) := by
  have hb0 : Below w.heap.size w (w.alloc (.cells #[.pointer none, .string ⟨#[]⟩, .int .i64 0, .bool false, .int .i64 0, .int .i64 0, .int .i64 0, .int .u64 0, .int .i64 0, .int .i64 0, .int .i64 0, .int .i64 0, .int .i64 0, .int .i64 0, .int .i64 0, .int .i64 0, .int .i64 0, .bool false, .int .i64 0, .int .i64 0] 58)) := (Below.refl _ _).alloc (Nat.le_refl _) _
  have hg0 := heap_alloc_new w (.cells #[.pointer none, .string ⟨#[]⟩, .int .i64 0, .bool false, .int .i64 0, .int .i64 0, .int .i64 0, .int .u64 0, .int .i64 0, .int .i64 0, .int .i64 0, .int .i64 0, .int .i64 0, .int .i64 0, .int .i64 0, .int .i64 0, .int .i64 0, .bool false, .int .i64 0, .int .i64 0] 58)
  obtain ⟨W0, hW0⟩ : ∃ W0, w.alloc (.cells #[.pointer none, .string ⟨#[]⟩, .int .i64 0, .bool false, .int .i64 0, .int .i64 0, .int .i64 0, .int .u64 0, .int .i64 0, .int .i64 0, .int .i64 0, .int .i64 0, .int .i64 0, .int .i64 0, .int .i64 0, .int .i64 0, .int .i64 0, .bool false, .int .i64 0, .int .i64 0] 58) = W0 := ⟨_, rfl⟩
  rw [hW0] at hb0 hg0
  have i1 : PIs w g := ⟨_, h.blk, rfl⟩
  have k1 := pcells_of h.blk
  have i0 : PIs W0 w.heap.size := ⟨_, hg0, rfl⟩
  have hlt := gb.blk_lt hg0
  have hb1 := below_setRow hb0 (Nat.le_refl _) (stC c s)
  have hg1 : (W0.setRow w.heap.size (stC c s)).heap[w.heap.size]? = some (.cells (stC c s) 58 (0, 0)) := setRow_heap W0 w.heap.size _ _ _ _ hg0
  have h1 := h.on hb1
  have HB1 := Lib.hid hb1
  have HG1 := Lib.hid hg1
  have H1 := Lib.hid h1
  clear h hb0 hg0 hb1 hg1 h1
  go_enter Tryz.func10, Tryz.ntmps10
  go_upto_region 2 with fail
  clear hW0 i1 k1 i0 hlt
  generalize W0.setRow w.heap.size (stC c s) = w1 at *
  have x0 : w1.cell? ⟨g, 0, none⟩ = some (.pointer (some ⟨c, 0, none⟩)) := H1.out.cell 0
  go_wp2_with fail
  clear x0
  refine (gc.copy_al H1.out.car).mono ?_
  rintro e w2 ⟨c2, u2, rfl, hal, hb2⟩
  have hg2 := (hb2.block _ (gb.blk_lt HG1.out)).trans HG1.out
  have HB2 := Lib.hid (HB1.out.trans (hb2.mono HB1.out.size))
  have hsz : w.heap.size ≤ w1.heap.size := HB1.out.size
  have y0 : w2.cell? ⟨w.heap.size, 0, none⟩ = some (.pointer (some ⟨c, 0, none⟩)) := cell_of_row _ _ 0 _ _ _ hg2
  have f0 : w2.frozen? ⟨w.heap.size, 0, none⟩ = false := gb.frozen_at hg2
  have hlt := gb.blk_lt hg2
  have hr : Raw (w2.setCell ⟨w.heap.size, 0, none⟩ (.pointer (some ⟨c2, 0, none⟩))) w.heap.size w.heap.size c2 u2 s M := by
    have hx : (w2.setCell ⟨w.heap.size, 0, none⟩ (.pointer (some ⟨c2, 0, none⟩))).heap[w.heap.size]? = some (.cells ((stC c s).setIfInBounds 0 (.pointer (some ⟨c2, 0, none⟩))) 58 (0, 0)) := gb.set_heap (i := 0) hg2 _
    obtain ⟨ms, G, hr, hl⟩ := hal
    have hlt1 := gb.blk_lt HG1.out
    have hrl := hr.lt
    have hru := hr.u_base
    refine ⟨hx, al_base (base := w1.heap.size) ⟨ms, G, hr.keep (Below.heap_setCell _ _ _ _ (show c2 ≠ w.heap.size by omega)) (fun i e => Below.heap_setCell _ _ _ _ (show i ≠ w.heap.size by have := (hru.1 i e).1; omega)) (fun i e => Below.heap_setCell _ _ _ _ (show i ≠ w.heap.size by have := (hru.2 i e).1; omega)), hl⟩ hsz, Nat.le_refl _⟩
  have hbf := HB2.out.setCell (p := ⟨w.heap.size, 0, none⟩) (Nat.le_refl _) (.pointer (some ⟨c2, 0, none⟩))
  have HR := Lib.hid hr
  have HBF := Lib.hid hbf
  clear hr hbf hg2 hal hb2 hsz
  go_wp2_with fail
  generalize w2.setCell ⟨w.heap.size, 0, none⟩ (.pointer (some ⟨c2, 0, none⟩)) = w3 at *
  try rw [Exit.noGoto_ret]
  go_ret
  exact ⟨w.heap.size, c2, u2, rfl, HR.out, HBF.out⟩
theorem copy_i {w : World} {U : Own} {g M : Nat} {s : St} (h : Rep w U g s M) : Calls Tryz.prog 10 #[ptr g] w fun e w' => ∃ g2 U2, e = .returned (ptr g2) ∧ Rep w' U2 g2 s M ∧ (∀ i, U2 i → w.heap.size ≤ i) ∧ Below w.heap.size w w' := by
  obtain ⟨base, c, u, s', hr, ho, hs, rfl⟩ := h
  refine (copy_any hr).mono ?_
  rintro e w' ⟨g2, c2, u2, rfl, hr2, hb⟩
  refine ⟨g2, blkU g2 c2 u2, rfl, ⟨_, c2, u2, s', hr2, ho, hs, rfl⟩, fun i hi => ?_, hb⟩
  have hu := hr2.car.u_base
  rcases hi with rfl | rfl | h | h
  · exact hr2.base
  · obtain ⟨ms, G, h1, _⟩ := hr2.car
    exact h1.lt.1
  · exact (hu.1 i h).1
  · exact (hu.2 i h).1
end Go.Proofs.YtlbihcpglcdmmaaGreat
namespace Go.Proofs.YtlbihcpglcdmmaaGreat
open Go.RowKit

attribute [local go_sem ↓] to_loadR to_storeR
attribute [local go_sem] run_loadR run_storeR rval
variable {w w' : World} {q n c : Nat} {p : Option Addr} {s s' : St}
def RNo (E : Int) (w : World) (e : Ending) (w' : World) : Prop := e = .returned (.tuple #[.agg (rC none 0 0 noSt), .int .i64 E]) ∧ Below w.heap.size w w'
def RYes (s : St) (w : World) (e : Ending) (w' : World) : Prop := e = .returned (.tuple #[.agg (rC none 0 0 s), .int .i64 0]) ∧ Below w.heap.size w w'
theorem newtwo (w : World) (t : Tox) : ∃ W0, (w.alloc (txCells t)).alloc (.cells (rC none 0 0 noSt) 38) = W0 ∧ TxAt W0 w.heap.size t ∧ RAt W0 (w.heap.size + 1) none 0 0 noSt ∧ Below w.heap.size w W0 := by
  have h0 := tx_alloc w t
  have hb0 := tx_below w t
  have h1 := rat_alloc (w.alloc (txCells t)) none 0 0 noSt
  have hb1 : Below (w.alloc (txCells t)).heap.size (w.alloc (txCells t)) ((w.alloc (txCells t)).alloc (.cells (rC none 0 0 noSt) 38)) := (Below.refl _ _).alloc (Nat.le_refl _) _
  have e : (w.alloc (txCells t)).heap.size = w.heap.size + 1 := by simp
  rw [e] at h1
  exact ⟨_, rfl, h0.on hb1, h1, gb.seqB hb0 hb1⟩
theorem chk10 (t : Tox) (ht : t.s.size ≤ maxLen) (W : World) {E : Int} (hE : t.chk = E) : Calls Tryz.prog 18 #[.agg #[.string t.s, .int .i64 t.k, .bool t.up, .int .i64 t.o, .int .i64 t.a, .int .i64 t.b]] W fun e w' => e = .returned (.int .i64 E) ∧ Below W.heap.size W w' := by
  rw [← hE]
  exact gx.rcheck_max t.s ht t.k t.up t.o t.a t.b W
theorem pass10 (t : Tox) (h : t ≠ noTox) (W : World) : Calls Tryz.prog 17 #[.agg #[.string t.s, .int .i64 t.k, .bool t.up, .int .i64 t.o, .int .i64 t.a, .int .i64 t.b]] W fun e w' => e = .returned (.bool false) ∧ Below W.heap.size W w' := rpass_no t h W
set_option maxRecDepth 100000 in
set_option maxHeartbeats 8000000 in
theorem rnew_chk (t : Tox) (ht : t.s.size ≤ maxLen) (seed room now : Int) (w : World) {E : Int} (hE : t.chk = E) (hE0 : E ≠ 0) (h0 : t ≠ noTox) : Calls Tryz.prog 5 #[.agg #[.string t.s, .int .i64 t.k, .bool t.up, .int .i64 t.o, .int .i64 t.a, .int .i64 t.b], .int .u64 seed, .int .i64 room, .int .i64 now] w (RNo E w) := by
  have HPS := Lib.hid (fun W => pass10 t h0 W)
  have HCK := Lib.hid (fun W => chk10 t ht W hE)
  have e3 : (E != 0) = true := by simpa using hE0
  have e4 : decide (E = 0) = false := by simpa using hE0
  clear hE hE0 ht h0
  obtain ⟨W0, hW0, ha0, hr0, hb0⟩ := newtwo w t
  have hW0 : (w.alloc (.cells #[.string t.s, .int .i64 t.k, .bool t.up, .int .i64 t.o, .int .i64 t.a, .int .i64 t.b] 23)).alloc (.cells #[.string ⟨#[]⟩, .int .i64 0, .bool false, .int .i64 0, .int .i64 0, .int .i64 0, .int .u64 0, .int .i64 0, .int .i64 0, .int .i64 0, .int .i64 0, .string ⟨#[]⟩, .slice none 0 0, .int .i64 0, .int .i64 0, .int .i64 0, .int .i64 0, .int .i64 0, .int .i64 0, .bool false, .int .i64 0, .int .i64 0] 38) = W0 := hW0
  have hsz := hr0.lt
  obtain ⟨y0, y1, y2, y3, y4, y5⟩ := ha0.cell
  have HT := Lib.hid ha0
  have HR := Lib.hid hr0
  have HB := Lib.hid hb0
  clear ha0 hr0 hb0
  go_enter Tryz.func5, Tryz.ntmps5
  go_wp2_with fail
  clear hW0
  refine (HPS.out _).mono ?_
  rintro e w1 ⟨rfl, hb1⟩
  have HT1 := Lib.hid (HT.out.on hb1)
  have HR1 := Lib.hid (HR.out.on hb1)
  have HB1 := Lib.hid (gb.seqB HB.out hb1)
  clear hb1 HT HR HB y0 y1 y2 y3 y4 y5
  obtain ⟨y0, y1, y2, y3, y4, y5⟩ := HT1.out.cell
  go_wp2_with fail
  refine (HCK.out _).mono ?_
  rintro e w2 ⟨rfl, hb2⟩
  have HT2 := Lib.hid (HT1.out.on hb2)
  have HR2 := Lib.hid (HR1.out.on hb2)
  have HB2 := Lib.hid (gb.seqB HB1.out hb2)
  clear hb2 HT1 HR1 HB1 y0 y1 y2 y3 y4 y5
  obtain ⟨y0, y1, y2, y3, y4, y5⟩ := HT2.out.cell
  go_wp2_with fail
  refine (HCK.out _).mono ?_
  rintro e w3 ⟨rfl, hb3⟩
  have HT3 := Lib.hid (HT2.out.on hb3)
  have HR3 := Lib.hid (HR2.out.on hb3)
  have HB3 := Lib.hid (gb.seqB HB2.out hb3)
  clear hb3 HT2 HR2 HB2 y0 y1 y2 y3 y4 y5
  obtain ⟨y0, y1, y2, y3, y4, y5⟩ := HT3.out.cell
  have hv : RVal #[.string ⟨#[]⟩, .int .i64 0, .bool false, .int .i64 0, .int .i64 0, .int .i64 0, .int .u64 0, .int .i64 0, .int .i64 0, .int .i64 0, .int .i64 0, .string ⟨#[]⟩, .slice none 0 0, .int .i64 0, .int .i64 0, .int .i64 0, .int .i64 0, .int .i64 0, .int .i64 0, .bool false, .int .i64 0, .int .i64 0] := rval none 0 0 noSt
  have i2 := HR3.out.is
  have hz := HR3.out.row none 0 0 noSt
  have hb := below_setRow HB3.out (Nat.le_succ w.heap.size) (rC none 0 0 noSt)
  have HZ := Lib.hid hz
  have HE := Lib.hid hb
  clear hz hb
  go_wp2_with fail
  generalize hWf : w3.setRow (w.heap.size + 1) (rC none 0 0 noSt) = wz at *
  unfold rC noSt noTox at hWf
  dsimp only at hWf
  try rw [hWf]
  exact bodyPost_ret (v := .tuple #[.agg (rC none 0 0 noSt), .int .i64 E]) (by simp [results, Tryz.results5, asAddr, loadVar_R HZ.out]) rfl ⟨rfl, HE.out⟩
set_option maxRecDepth 100000 in
set_option maxHeartbeats 8000000 in
theorem rnew_room_t (t : Tox) (ht : t.s.size ≤ maxLen) (seed room now : Int) (w : World) (hE : t.chk = 0) (h0 : t ≠ noTox) (hr : room < 1 ∨ 4096 < room) : Calls Tryz.prog 5 #[.agg #[.string t.s, .int .i64 t.k, .bool t.up, .int .i64 t.o, .int .i64 t.a, .int .i64 t.b], .int .u64 seed, .int .i64 room, .int .i64 now] w (RNo 1 w) := by
  have HPS := Lib.hid (fun W => pass10 t h0 W)
  have HCK := Lib.hid (fun W => chk10 t ht W hE)
  have HRM := Lib.hid hr
  clear hE ht h0 hr
  obtain ⟨W0, hW0, ha0, hr0, hb0⟩ := newtwo w t
  have hW0 : (w.alloc (.cells #[.string t.s, .int .i64 t.k, .bool t.up, .int .i64 t.o, .int .i64 t.a, .int .i64 t.b] 23)).alloc (.cells #[.string ⟨#[]⟩, .int .i64 0, .bool false, .int .i64 0, .int .i64 0, .int .i64 0, .int .u64 0, .int .i64 0, .int .i64 0, .int .i64 0, .int .i64 0, .string ⟨#[]⟩, .slice none 0 0, .int .i64 0, .int .i64 0, .int .i64 0, .int .i64 0, .int .i64 0, .int .i64 0, .bool false, .int .i64 0, .int .i64 0] 38) = W0 := hW0
  have hsz := hr0.lt
  obtain ⟨y0, y1, y2, y3, y4, y5⟩ := ha0.cell
  have HT := Lib.hid ha0
  have HR := Lib.hid hr0
  have HB := Lib.hid hb0
  clear ha0 hr0 hb0
  go_enter Tryz.func5, Tryz.ntmps5
  go_wp2_with fail
  clear hW0
  refine (HPS.out _).mono ?_
  rintro e w1 ⟨rfl, hb1⟩
  have HT1 := Lib.hid (HT.out.on hb1)
  have HR1 := Lib.hid (HR.out.on hb1)
  have HB1 := Lib.hid (gb.seqB HB.out hb1)
  clear hb1 HT HR HB y0 y1 y2 y3 y4 y5
  obtain ⟨y0, y1, y2, y3, y4, y5⟩ := HT1.out.cell
  go_wp2_with fail
  refine (HCK.out _).mono ?_
  rintro e w2 ⟨rfl, hb2⟩
  have HT2 := Lib.hid (HT1.out.on hb2)
  have HR2 := Lib.hid (HR1.out.on hb2)
  have HB2 := Lib.hid (gb.seqB HB1.out hb2)
  clear hb2 HT1 HR1 HB1 y0 y1 y2 y3 y4 y5
  obtain ⟨y0, y1, y2, y3, y4, y5⟩ := HT2.out.cell
  have d1 : (decide (room < 1) || decide (4096 < room)) = true := by have := HRM.out; simp; omega
  rcases HRM.out with hr | hr
  · have c1 : decide (room < 1) = true := by simpa using hr
    clear hr
    go_upto_region 4 with fail
    clear c1
    have hv : RVal #[.string ⟨#[]⟩, .int .i64 0, .bool false, .int .i64 0, .int .i64 0, .int .i64 0, .int .u64 0, .int .i64 0, .int .i64 0, .int .i64 0, .int .i64 0, .string ⟨#[]⟩, .slice none 0 0, .int .i64 0, .int .i64 0, .int .i64 0, .int .i64 0, .int .i64 0, .int .i64 0, .bool false, .int .i64 0, .int .i64 0] := rval none 0 0 noSt
    have i2 := HR2.out.is
    have hz := HR2.out.row none 0 0 noSt
    have hb := below_setRow HB2.out (Nat.le_succ w.heap.size) (rC none 0 0 noSt)
    have HZ := Lib.hid hz
    have HE := Lib.hid hb
    clear hz hb
    go_wp2_with fail
    generalize hWf : w2.setRow (w.heap.size + 1) (rC none 0 0 noSt) = wz at *
    unfold rC noSt noTox at hWf
    dsimp only at hWf
    try rw [hWf]
    exact bodyPost_ret (v := .tuple #[.agg (rC none 0 0 noSt), .int .i64 1]) (by simp [results, Tryz.results5, asAddr, loadVar_R HZ.out]) rfl ⟨rfl, HE.out⟩
  · have c1 : decide (room < 1) = false := by simp; omega
    have c2 : decide (4096 < room) = true := by simpa using hr
    clear hr
    go_upto_region 4 with fail
    clear c1 c2
    have hv : RVal #[.string ⟨#[]⟩, .int .i64 0, .bool false, .int .i64 0, .int .i64 0, .int .i64 0, .int .u64 0, .int .i64 0, .int .i64 0, .int .i64 0, .int .i64 0, .string ⟨#[]⟩, .slice none 0 0, .int .i64 0, .int .i64 0, .int .i64 0, .int .i64 0, .int .i64 0, .int .i64 0, .bool false, .int .i64 0, .int .i64 0] := rval none 0 0 noSt
    have i2 := HR2.out.is
    have hz := HR2.out.row none 0 0 noSt
    have hb := below_setRow HB2.out (Nat.le_succ w.heap.size) (rC none 0 0 noSt)
    have HZ := Lib.hid hz
    have HE := Lib.hid hb
    clear hz hb
    go_wp2_with fail
    generalize hWf : w2.setRow (w.heap.size + 1) (rC none 0 0 noSt) = wz at *
    unfold rC noSt noTox at hWf
    dsimp only at hWf
    try rw [hWf]
    exact bodyPost_ret (v := .tuple #[.agg (rC none 0 0 noSt), .int .i64 1]) (by simp [results, Tryz.results5, asAddr, loadVar_R HZ.out]) rfl ⟨rfl, HE.out⟩
end Go.Proofs.YtlbihcpglcdmmaaGreat

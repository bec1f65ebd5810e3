/-
  Contract: what a call of the statements does to the program's stage. Conditions: as each states.
  Contract: what the statements' own alive answers. Conditions: as each states.
-/
import Derived.Test.YtlbihcpglcdmmaaGreatZJ
import Derived.Test.YtlbihcpglcdmmaaGreatZK
import Derived.Deep.Cut
namespace Go.Proofs.YtlbihcpglcdmmaaGreat
open Go.RowKit

def opV (o : Op) : Value := .agg #[.int .i64 o.kind, .int .i64 o.now, .int .i64 o.n, .string o.s, .string o.t.s, .int .i64 o.t.k, .bool o.t.up, .int .i64 o.t.o, .int .i64 o.t.a, .int .i64 o.t.b]
def opCells (o : Op) : Obj := .cells #[.int .i64 o.kind, .int .i64 o.now, .int .i64 o.n, .string o.s, .string o.t.s, .int .i64 o.t.k, .bool o.t.up, .int .i64 o.t.o, .int .i64 o.t.a, .int .i64 o.t.b] 44
def ansCells (a : Ans) : Obj := .cells #[.int .i64 a.n, .string a.s, .int .i64 a.e] 46
def set3 (w : World) (g : Nat) (a b c : Value) : World := ((w.setCell ⟨g, 0, none⟩ a).setCell ⟨g, 1, none⟩ b).setCell ⟨g, 2, none⟩ c
/-- Inside of does: the stage, the call's own three blocks. -/
structure Dz (w0 w : World) (U : Own) (g : Nat) (s : St) (M : Nat) (o : Op) (a : Ans) (W : World) (U' : Own) : Prop where
  hd : Hd w0 W U' g s M
  rest : Rest w U W U'
  up : w0.heap.size ≤ w.heap.size
  b3 : W.heap[w.heap.size]? = some (opCells o)
  b4 : W.heap[w.heap.size + 1]? = some (ansCells noAns)
  b5 : W.heap[w.heap.size + 2]? = some (ansCells a)
  n3 : ¬ U' w.heap.size
  n4 : ¬ U' (w.heap.size + 1)
  n5 : ¬ U' (w.heap.size + 2)
theorem set_heap {w : World} {g i : Nat} {cs : Array Value} {T : TypeId} {fr : Nat × Nat} (hg : w.heap[g]? = some (.cells cs T fr)) (u : Value) : (w.setCell ⟨g, i, none⟩ u).heap[g]? = some (.cells (cs.setIfInBounds i u) T fr) := by
  simp [World.setCell, Array.getElem?_modify, hg]
theorem blk_lt {w : World} {g : Nat} {o : Obj} (h : w.heap[g]? = some o) : g < w.heap.size := (Array.getElem?_eq_some_iff.1 h).1
theorem frozen_at {w : World} {g i : Nat} {cs : Array Value} {t : TypeId} (h : w.heap[g]? = some (.cells cs t (0, 0))) : w.frozen? ⟨g, i, none⟩ = false := by simp [World.frozen?, h]
theorem three_blocks (w : World) (o0 o1 o2 : Obj) : (((w.alloc o0).alloc o1).alloc o2).heap[w.heap.size]? = some o0 ∧ (((w.alloc o0).alloc o1).alloc o2).heap[w.heap.size + 1]? = some o1 ∧ (((w.alloc o0).alloc o1).alloc o2).heap[w.heap.size + 2]? = some o2 := by
  have s1 : (w.alloc o0).heap.size = w.heap.size + 1 := by simp
  have s2 : ((w.alloc o0).alloc o1).heap.size = w.heap.size + 2 := by simp
  have b1 : Below (w.alloc o0).heap.size (w.alloc o0) ((w.alloc o0).alloc o1) := (Below.refl _ _).alloc (Nat.le_refl _) _
  have b2 : Below ((w.alloc o0).alloc o1).heap.size ((w.alloc o0).alloc o1) (((w.alloc o0).alloc o1).alloc o2) := (Below.refl _ _).alloc (Nat.le_refl _) _
  have h0 := heap_alloc_new w o0
  have h1 := heap_alloc_new (w.alloc o0) o1
  have h2 := heap_alloc_new ((w.alloc o0).alloc o1) o2
  rw [s1] at h1
  rw [s2] at h2
  exact ⟨(b2.block _ (by omega)).trans ((b1.block _ (by omega)).trans h0), (b2.block _ (by omega)).trans h1, h2⟩
section
variable {w0 w W W' : World} {U U1 U' : Own} {g : Nat} {s s' : St} {M M' : Nat} {o : Op} {a : Ans}
theorem dz_start (h : Hd w0 w U g s M) (o : Op) : Dz w0 w U g s M o noAns (((w.alloc (opCells o)).alloc (ansCells noAns)).alloc (ansCells noAns)) U := by
  have hb : Below w.heap.size w (((w.alloc (opCells o)).alloc (ansCells noAns)).alloc (ansCells noAns)) := (((Below.refl _ _).alloc (Nat.le_refl _) _).alloc (by simp) _).alloc (by simp; omega) _
  obtain ⟨h3, h4, h5⟩ := three_blocks w (opCells o) (ansCells noAns) (ansCells noAns)
  exact ⟨h.on hb, fun i hi hu => ⟨hb.block i hi, hu⟩, h.2.2.size, h3, h4, h5, h.new (Nat.le_refl _), h.new (by omega), h.new (by omega)⟩
theorem Dz.on (h : Dz w0 w U g s M o a W U') (hb : Below W.heap.size W W') : Dz w0 w U g s M o a W' U' :=
  ⟨h.hd.on hb, fun i hi hu => by
    have hh := h.rest i hi hu
    exact ⟨(hb.block i (Nat.lt_of_lt_of_le hi (Nat.le_trans (Nat.le_of_lt (blk_lt h.b3)) (Nat.le_refl _)))).trans hh.1, hh.2⟩, h.up, (hb.block _ (blk_lt h.b3)).trans h.b3, (hb.block _ (blk_lt h.b4)).trans h.b4, (hb.block _ (blk_lt h.b5)).trans h.b5, h.n3, h.n4, h.n5⟩
theorem Dz.step (h : Dz w0 w U g s M o a W U1) (hs : Stp W U1 g s' M' W') : ∃ U', Dz w0 w U g s' M' o a W' U' := by
  obtain ⟨U', hd, hr⟩ := h.hd.step hs
  have r3 := hr _ (blk_lt h.b3) h.n3
  have r4 := hr _ (blk_lt h.b4) h.n4
  have r5 := hr _ (blk_lt h.b5) h.n5
  refine ⟨U', hd, fun i hi hu => ?_, h.up, r3.1.trans h.b3, r4.1.trans h.b4, r5.1.trans h.b5, r3.2, r4.2, r5.2⟩
  have h1 := h.rest i hi hu
  have h2 := hr i (Nat.lt_trans hi (blk_lt h.b3)) h1.2
  exact ⟨h2.1.trans h1.1, h2.2⟩
/-- A store into the answer. -/
theorem Dz.set (h : Dz w0 w U g s M o a W U') {k : Nat} {v : Value} {a' : Ans} (ha : (W.setCell ⟨w.heap.size + 2, k, none⟩ v).heap[w.heap.size + 2]? = some (ansCells a')) : Dz w0 w U g s M o a' (W.setCell ⟨w.heap.size + 2, k, none⟩ v) U' :=
  ⟨h.hd.set h.n5 (by have := h.up; omega) v, fun i hi hu => by
    have hh := h.rest i hi hu
    exact ⟨(Below.heap_setCell _ _ _ _ (show i ≠ w.heap.size + 2 by omega)).trans hh.1, hh.2⟩, h.up, (Below.heap_setCell _ _ _ _ (show w.heap.size ≠ w.heap.size + 2 by omega)).trans h.b3, (Below.heap_setCell _ _ _ _ (show w.heap.size + 1 ≠ w.heap.size + 2 by omega)).trans h.b4, ha, h.n3, h.n4, h.n5⟩
theorem Dz.setN (h : Dz w0 w U g s M o a W U') (x : Int) : Dz w0 w U g s M o ⟨x, a.s, a.e⟩ (W.setCell ⟨w.heap.size + 2, 0, none⟩ (.int .i64 x)) U' := h.set (by rw [set_heap h.b5]; rfl)
theorem Dz.setS (h : Dz w0 w U g s M o a W U') (x : ByteArray) : Dz w0 w U g s M o ⟨a.n, x, a.e⟩ (W.setCell ⟨w.heap.size + 2, 1, none⟩ (.string x)) U' := h.set (by rw [set_heap h.b5]; rfl)
theorem Dz.setE (h : Dz w0 w U g s M o a W U') (x : Int) : Dz w0 w U g s M o ⟨a.n, a.s, x⟩ (W.setCell ⟨w.heap.size + 2, 2, none⟩ (.int .i64 x)) U' := h.set (by rw [set_heap h.b5]; rfl)
/-- What does hands back. -/
def Doe (w0 w : World) (U : Own) (g : Nat) (s : St) (a : Ans) (M : Nat) (e : Ending) (W : World) : Prop := e = .returned (.agg #[.int .i64 a.n, .string a.s, .int .i64 a.e]) ∧ ∃ U', Hd w0 W U' g s M ∧ Rest w U W U'
theorem Dz.fin (h : Dz w0 w U g s M o a W U') : (∃ U'', Hd w0 (set3 W (w.heap.size + 1) (.int .i64 a.n) (.string a.s) (.int .i64 a.e)) U'' g s M ∧ Rest w U (set3 W (w.heap.size + 1) (.int .i64 a.n) (.string a.s) (.int .i64 a.e)) U'') ∧
    (set3 W (w.heap.size + 1) (.int .i64 a.n) (.string a.s) (.int .i64 a.e)).heap[w.heap.size + 1]? = some (ansCells a) := by
  have hu := h.up
  have h1 := h.hd.set (k := 0) h.n4 (by omega) (.int .i64 a.n)
  have h2 := h1.set (k := 1) h.n4 (by omega) (.string a.s)
  have h3 := h2.set (k := 2) h.n4 (by omega) (.int .i64 a.e)
  refine ⟨⟨U', h3, fun i hi hx => ?_⟩, ?_⟩
  · have hh := h.rest i hi hx
    refine ⟨?_, hh.2⟩
    unfold set3
    rw [Below.heap_setCell _ _ _ _ (show i ≠ w.heap.size + 1 by omega), Below.heap_setCell _ _ _ _ (show i ≠ w.heap.size + 1 by omega), Below.heap_setCell _ _ _ _ (show i ≠ w.heap.size + 1 by omega)]
    exact hh.1
  · unfold set3
    rw [set_heap (set_heap (set_heap h.b4 _) _) _]
    rfl
end
section
variable {w0 w : World} {U : Own} {g : Nat} {s : St} {M M' : Nat}
set_option maxRecDepth 100000 in
set_option maxHeartbeats 8000000 in
theorem does4 (h : Hd w0 w U g s M) (now n : Int) (b ts : ByteArray) (tk : Int) (tu : Bool) (to ta tb : Int)  :
    Calls Tryz.prog 9 #[ptr g, .agg #[.int .i64 4, .int .i64 now, .int .i64 n, .string b, .string ts, .int .i64 tk, .bool tu, .int .i64 to, .int .i64 ta, .int .i64 tb]] w (Doe w0 w U g (lookS s now) ⟨(lookS s now).st, ⟨#[]⟩, 0⟩ M) := by
  have hz := dz_start h ⟨4, now, n, b, ⟨ts, tk, tu, to, ta, tb⟩⟩
  unfold opCells ansCells at hz
  simp only [noAns] at hz
  have HZ := Lib.hid hz
  clear hz h
  go_enter Tryz.func9, Tryz.ntmps9
  go_wp2_with fail
  generalize ((w.alloc (.cells #[.int .i64 4, .int .i64 now, .int .i64 n, .string b, .string ts, .int .i64 tk, .bool tu, .int .i64 to, .int .i64 ta, .int .i64 tb] 44)).alloc (.cells #[.int .i64 0, .string ⟨#[]⟩, .int .i64 0] 46)).alloc (.cells #[.int .i64 0, .string ⟨#[]⟩, .int .i64 0] 46) = w1 at *
  refine (state_i HZ.out.hd.1 now).mono ?_
  rintro e w2 ⟨rfl, hs⟩
  obtain ⟨U2, hz2⟩ := HZ.out.step hs
  have HZ2 := Lib.hid hz2
  clear hs hz2 HZ
  generalize (lookS s now).st = X at *
  have k3 := HZ2.out.b3
  have k5 := HZ2.out.b5
  have x0 := cell_of_row w2 _ 0 _ _ _ k5
  have x1 := cell_of_row w2 _ 1 _ _ _ k5
  have x2 := cell_of_row w2 _ 2 _ _ _ k5
  have f0 : w2.frozen? ⟨w.heap.size + 2, 0, none⟩ = false := frozen_at k5
  have f1 : w2.frozen? ⟨w.heap.size + 2, 1, none⟩ = false := frozen_at k5
  have f2 : w2.frozen? ⟨w.heap.size + 2, 2, none⟩ = false := frozen_at k5
  have hlt := blk_lt k5
  clear k3 k5
  go_upto_region 17 with fail
  have HZ3 := Lib.hid (HZ2.out.setN X)
  generalize w2.setCell ⟨w.heap.size + 2, 0, none⟩ (.int .i64 X) = w3 at *
  clear x0 x1 x2 f0 f1 f2 hlt HZ2
  have hk5 := HZ3.out.b5
  have hk4 := HZ3.out.b4
  have x0 := cell_of_row w3 _ 0 _ _ _ hk5
  have x1 := cell_of_row w3 _ 1 _ _ _ hk5
  have x2 := cell_of_row w3 _ 2 _ _ _ hk5
  have y0 := cell_of_row w3 _ 0 _ _ _ hk4
  have y1 := cell_of_row w3 _ 1 _ _ _ hk4
  have y2 := cell_of_row w3 _ 2 _ _ _ hk4
  have f0 : w3.frozen? ⟨w.heap.size + 1, 0, none⟩ = false := frozen_at hk4
  have f1 : w3.frozen? ⟨w.heap.size + 1, 1, none⟩ = false := frozen_at hk4
  have f2 : w3.frozen? ⟨w.heap.size + 1, 2, none⟩ = false := frozen_at hk4
  simp only [noAns] at x0 x1 x2 y0 y1 y2
  have hf := HZ3.out.fin
  have hlt := blk_lt hk4
  have hlt2 := blk_lt hk5
  have HF := Lib.hid hf
  clear hk4 hk5 hf
  go_wp2_with fail
  generalize hW : set3 w3 (w.heap.size + 1) (.int .i64 X) (.string ⟨#[]⟩) (.int .i64 0) = W at *
  unfold set3 at hW
  rw [hW]
  clear hW x0 x1 x2 y0 y1 y2 f0 f1 f2
  obtain ⟨hdd, hzz⟩ := HF.out
  have z0 := cell_of_row W _ 0 _ _ _ hzz
  have z1 := cell_of_row W _ 1 _ _ _ hzz
  have z2 := cell_of_row W _ 2 _ _ _ hzz
  exact bodyPost_ret (v := .agg #[.int .i64 X, .string ⟨#[]⟩, .int .i64 0]) (by simp [results, Tryz.results9, go_sem, z0, z1, z2]) rfl ⟨rfl, hdd⟩
set_option maxRecDepth 100000 in
set_option maxHeartbeats 8000000 in
theorem does3 (h : Hd w0 w U g s M) (now n : Int) (b ts : ByteArray) (tk : Int) (tu : Bool) (to ta tb : Int)  :
    Calls Tryz.prog 9 #[ptr g, .agg #[.int .i64 3, .int .i64 now, .int .i64 n, .string b, .string ts, .int .i64 tk, .bool tu, .int .i64 to, .int .i64 ta, .int .i64 tb]] w (Doe w0 w U g (closeS s now) noAns M) := by
  have hz := dz_start h ⟨3, now, n, b, ⟨ts, tk, tu, to, ta, tb⟩⟩
  unfold opCells ansCells at hz
  simp only [noAns] at hz
  have HZ := Lib.hid hz
  clear hz h
  go_enter Tryz.func9, Tryz.ntmps9
  go_wp2_with fail
  generalize ((w.alloc (.cells #[.int .i64 3, .int .i64 now, .int .i64 n, .string b, .string ts, .int .i64 tk, .bool tu, .int .i64 to, .int .i64 ta, .int .i64 tb] 44)).alloc (.cells #[.int .i64 0, .string ⟨#[]⟩, .int .i64 0] 46)).alloc (.cells #[.int .i64 0, .string ⟨#[]⟩, .int .i64 0] 46) = w1 at *
  refine (close_i HZ.out.hd.1 now).mono ?_
  rintro e w2 ⟨rfl, hs⟩
  obtain ⟨U2, hz2⟩ := HZ.out.step hs
  have HZ2 := Lib.hid hz2
  clear hs hz2 HZ
  have k3 := HZ2.out.b3
  have k5 := HZ2.out.b5
  have x0 := cell_of_row w2 _ 0 _ _ _ k5
  have x1 := cell_of_row w2 _ 1 _ _ _ k5
  have x2 := cell_of_row w2 _ 2 _ _ _ k5
  have f0 : w2.frozen? ⟨w.heap.size + 2, 0, none⟩ = false := frozen_at k5
  have f1 : w2.frozen? ⟨w.heap.size + 2, 1, none⟩ = false := frozen_at k5
  have f2 : w2.frozen? ⟨w.heap.size + 2, 2, none⟩ = false := frozen_at k5
  have hlt := blk_lt k5
  clear k3 k5
  go_upto_region 17 with fail
  have HZ3 := HZ2
  obtain ⟨w3, hw3⟩ : ∃ w3, w2 = w3 := ⟨_, rfl⟩
  subst hw3
  clear x0 x1 x2 f0 f1 f2 hlt HZ2
  have hk5 := HZ3.out.b5
  have hk4 := HZ3.out.b4
  have x0 := cell_of_row w2 _ 0 _ _ _ hk5
  have x1 := cell_of_row w2 _ 1 _ _ _ hk5
  have x2 := cell_of_row w2 _ 2 _ _ _ hk5
  have y0 := cell_of_row w2 _ 0 _ _ _ hk4
  have y1 := cell_of_row w2 _ 1 _ _ _ hk4
  have y2 := cell_of_row w2 _ 2 _ _ _ hk4
  have f0 : w2.frozen? ⟨w.heap.size + 1, 0, none⟩ = false := frozen_at hk4
  have f1 : w2.frozen? ⟨w.heap.size + 1, 1, none⟩ = false := frozen_at hk4
  have f2 : w2.frozen? ⟨w.heap.size + 1, 2, none⟩ = false := frozen_at hk4
  simp only [noAns] at x0 x1 x2 y0 y1 y2
  have hf := HZ3.out.fin
  have hlt := blk_lt hk4
  have hlt2 := blk_lt hk5
  have HF := Lib.hid hf
  clear hk4 hk5 hf
  go_wp2_with fail
  generalize hW : set3 w2 (w.heap.size + 1) (.int .i64 0) (.string ⟨#[]⟩) (.int .i64 0) = W at *
  unfold set3 at hW
  rw [hW]
  clear hW x0 x1 x2 y0 y1 y2 f0 f1 f2
  obtain ⟨hdd, hzz⟩ := HF.out
  have z0 := cell_of_row W _ 0 _ _ _ hzz
  have z1 := cell_of_row W _ 1 _ _ _ hzz
  have z2 := cell_of_row W _ 2 _ _ _ hzz
  exact bodyPost_ret (v := .agg #[.int .i64 0, .string ⟨#[]⟩, .int .i64 0]) (by simp [results, Tryz.results9, go_sem, z0, z1, z2]) rfl ⟨rfl, hdd⟩
set_option maxRecDepth 100000 in
set_option maxHeartbeats 8000000 in
theorem does5 (h : Hd w0 w U g s M) (now n : Int) (b ts : ByteArray) (tk : Int) (tu : Bool) (to ta tb : Int) (hts : ts.size ≤ maxLen) :
    Calls Tryz.prog 9 #[ptr g, .agg #[.int .i64 5, .int .i64 now, .int .i64 n, .string b, .string ts, .int .i64 tk, .bool tu, .int .i64 to, .int .i64 ta, .int .i64 tb]] w (Doe w0 w U g (updS s ⟨ts, tk, tu, to, ta, tb⟩ now).1 ⟨0, ⟨#[]⟩, (updS s ⟨ts, tk, tu, to, ta, tb⟩ now).2⟩ M) := by
  have hz := dz_start h ⟨5, now, n, b, ⟨ts, tk, tu, to, ta, tb⟩⟩
  unfold opCells ansCells at hz
  simp only [noAns] at hz
  have HZ := Lib.hid hz
  clear hz h
  go_enter Tryz.func9, Tryz.ntmps9
  go_wp2_with fail
  generalize ((w.alloc (.cells #[.int .i64 5, .int .i64 now, .int .i64 n, .string b, .string ts, .int .i64 tk, .bool tu, .int .i64 to, .int .i64 ta, .int .i64 tb] 44)).alloc (.cells #[.int .i64 0, .string ⟨#[]⟩, .int .i64 0] 46)).alloc (.cells #[.int .i64 0, .string ⟨#[]⟩, .int .i64 0] 46) = w1 at *
  refine (update_i HZ.out.hd.1 ⟨ts, tk, tu, to, ta, tb⟩ hts now).mono ?_
  rintro e w2 ⟨rfl, hs⟩
  obtain ⟨U2, hz2⟩ := HZ.out.step hs
  have HZ2 := Lib.hid hz2
  clear hs hz2 HZ
  generalize (updS s ⟨ts, tk, tu, to, ta, tb⟩ now).2 = X at *
  have k3 := HZ2.out.b3
  have k5 := HZ2.out.b5
  have x0 := cell_of_row w2 _ 0 _ _ _ k5
  have x1 := cell_of_row w2 _ 1 _ _ _ k5
  have x2 := cell_of_row w2 _ 2 _ _ _ k5
  have f0 : w2.frozen? ⟨w.heap.size + 2, 0, none⟩ = false := frozen_at k5
  have f1 : w2.frozen? ⟨w.heap.size + 2, 1, none⟩ = false := frozen_at k5
  have f2 : w2.frozen? ⟨w.heap.size + 2, 2, none⟩ = false := frozen_at k5
  have hlt := blk_lt k5
  clear k3 k5
  go_upto_region 17 with fail
  have HZ3 := Lib.hid (HZ2.out.setE X)
  generalize w2.setCell ⟨w.heap.size + 2, 2, none⟩ (.int .i64 X) = w3 at *
  clear x0 x1 x2 f0 f1 f2 hlt HZ2
  have hk5 := HZ3.out.b5
  have hk4 := HZ3.out.b4
  have x0 := cell_of_row w3 _ 0 _ _ _ hk5
  have x1 := cell_of_row w3 _ 1 _ _ _ hk5
  have x2 := cell_of_row w3 _ 2 _ _ _ hk5
  have y0 := cell_of_row w3 _ 0 _ _ _ hk4
  have y1 := cell_of_row w3 _ 1 _ _ _ hk4
  have y2 := cell_of_row w3 _ 2 _ _ _ hk4
  have f0 : w3.frozen? ⟨w.heap.size + 1, 0, none⟩ = false := frozen_at hk4
  have f1 : w3.frozen? ⟨w.heap.size + 1, 1, none⟩ = false := frozen_at hk4
  have f2 : w3.frozen? ⟨w.heap.size + 1, 2, none⟩ = false := frozen_at hk4
  simp only [noAns] at x0 x1 x2 y0 y1 y2
  have hf := HZ3.out.fin
  have hlt := blk_lt hk4
  have hlt2 := blk_lt hk5
  have HF := Lib.hid hf
  clear hk4 hk5 hf
  go_wp2_with fail
  generalize hW : set3 w3 (w.heap.size + 1) (.int .i64 0) (.string ⟨#[]⟩) (.int .i64 X) = W at *
  unfold set3 at hW
  rw [hW]
  clear hW x0 x1 x2 y0 y1 y2 f0 f1 f2
  obtain ⟨hdd, hzz⟩ := HF.out
  have z0 := cell_of_row W _ 0 _ _ _ hzz
  have z1 := cell_of_row W _ 1 _ _ _ hzz
  have z2 := cell_of_row W _ 2 _ _ _ hzz
  exact bodyPost_ret (v := .agg #[.int .i64 0, .string ⟨#[]⟩, .int .i64 X]) (by simp [results, Tryz.results9, go_sem, z0, z1, z2]) rfl ⟨rfl, hdd⟩
set_option maxRecDepth 100000 in
set_option maxHeartbeats 8000000 in
theorem does0 (h : Hd w0 w U g s M) (now n : Int) (b ts : ByteArray) (tk : Int) (tu : Bool) (to ta tb : Int) (hM : M + b.size ≤ M') (hf : M' ≤ 1000000) :
    Calls Tryz.prog 9 #[ptr g, .agg #[.int .i64 0, .int .i64 now, .int .i64 n, .string b, .string ts, .int .i64 tk, .bool tu, .int .i64 to, .int .i64 ta, .int .i64 tb]] w (Doe w0 w U g (bringS s now b).1 ⟨(bringS s now b).2, ⟨#[]⟩, 0⟩ M') := by
  have hz := dz_start h ⟨0, now, n, b, ⟨ts, tk, tu, to, ta, tb⟩⟩
  unfold opCells ansCells at hz
  simp only [noAns] at hz
  obtain ⟨c, w1, hcv, hbi, hb1, _, _, _⟩ := gc.conv_text b (by omega) (((w.alloc (.cells #[.int .i64 0, .int .i64 now, .int .i64 n, .string b, .string ts, .int .i64 tk, .bool tu, .int .i64 to, .int .i64 ta, .int .i64 tb] 44)).alloc (.cells #[.int .i64 0, .string ⟨#[]⟩, .int .i64 0] 46)).alloc (.cells #[.int .i64 0, .string ⟨#[]⟩, .int .i64 0] 46))
  have hz := hz.on hb1
  have hq : (((w.alloc (.cells #[.int .i64 0, .int .i64 now, .int .i64 n, .string b, .string ts, .int .i64 tk, .bool tu, .int .i64 to, .int .i64 ta, .int .i64 tb] 44)).alloc (.cells #[.int .i64 0, .string ⟨#[]⟩, .int .i64 0] 46)).alloc (.cells #[.int .i64 0, .string ⟨#[]⟩, .int .i64 0] 46)).heap.size = w.heap.size + 3 := by simp
  rw [hq] at hcv hbi
  clear hb1 hq
  have HZ := Lib.hid hz
  clear hz h
  go_enter Tryz.func9, Tryz.ntmps9
  go_wp2_with fail
  refine (put_i HZ.out.hd.1 now rfl hbi hM hf).mono ?_
  rintro e w2 ⟨rfl, hs⟩
  obtain ⟨U2, hz2⟩ := HZ.out.step hs
  have HZ2 := Lib.hid hz2
  clear hs hz2 HZ hcv hbi
  generalize (bringS s now b).2 = X at *
  have k3 := HZ2.out.b3
  have k5 := HZ2.out.b5
  have x0 := cell_of_row w2 _ 0 _ _ _ k5
  have x1 := cell_of_row w2 _ 1 _ _ _ k5
  have x2 := cell_of_row w2 _ 2 _ _ _ k5
  have f0 : w2.frozen? ⟨w.heap.size + 2, 0, none⟩ = false := frozen_at k5
  have f1 : w2.frozen? ⟨w.heap.size + 2, 1, none⟩ = false := frozen_at k5
  have f2 : w2.frozen? ⟨w.heap.size + 2, 2, none⟩ = false := frozen_at k5
  have hlt := blk_lt k5
  clear k3 k5
  go_upto_region 17 with fail
  have HZ3 := Lib.hid (HZ2.out.setN X)
  generalize w2.setCell ⟨w.heap.size + 2, 0, none⟩ (.int .i64 X) = w3 at *
  clear x0 x1 x2 f0 f1 f2 hlt HZ2
  have hk5 := HZ3.out.b5
  have hk4 := HZ3.out.b4
  have x0 := cell_of_row w3 _ 0 _ _ _ hk5
  have x1 := cell_of_row w3 _ 1 _ _ _ hk5
  have x2 := cell_of_row w3 _ 2 _ _ _ hk5
  have y0 := cell_of_row w3 _ 0 _ _ _ hk4
  have y1 := cell_of_row w3 _ 1 _ _ _ hk4
  have y2 := cell_of_row w3 _ 2 _ _ _ hk4
  have f0 : w3.frozen? ⟨w.heap.size + 1, 0, none⟩ = false := frozen_at hk4
  have f1 : w3.frozen? ⟨w.heap.size + 1, 1, none⟩ = false := frozen_at hk4
  have f2 : w3.frozen? ⟨w.heap.size + 1, 2, none⟩ = false := frozen_at hk4
  simp only [noAns] at x0 x1 x2 y0 y1 y2
  have hf := HZ3.out.fin
  have hlt := blk_lt hk4
  have hlt2 := blk_lt hk5
  have HF := Lib.hid hf
  clear hk4 hk5 hf
  go_wp2_with fail
  generalize hW : set3 w3 (w.heap.size + 1) (.int .i64 X) (.string ⟨#[]⟩) (.int .i64 0) = W at *
  unfold set3 at hW
  rw [hW]
  clear hW x0 x1 x2 y0 y1 y2 f0 f1 f2
  obtain ⟨hdd, hzz⟩ := HF.out
  have z0 := cell_of_row W _ 0 _ _ _ hzz
  have z1 := cell_of_row W _ 1 _ _ _ hzz
  have z2 := cell_of_row W _ 2 _ _ _ hzz
  exact bodyPost_ret (v := .agg #[.int .i64 X, .string ⟨#[]⟩, .int .i64 0]) (by simp [results, Tryz.results9, go_sem, z0, z1, z2]) rfl ⟨rfl, hdd⟩
set_option maxRecDepth 100000 in
set_option maxHeartbeats 8000000 in
theorem does1 (h : Hd w0 w U g s M) (now n : Int) (b ts : ByteArray) (tk : Int) (tu : Bool) (to ta tb : Int) (hM : M + b.size ≤ M') (hf : M' ≤ 1000000) :
    Calls Tryz.prog 9 #[ptr g, .agg #[.int .i64 1, .int .i64 now, .int .i64 n, .string b, .string ts, .int .i64 tk, .bool tu, .int .i64 to, .int .i64 ta, .int .i64 tb]] w (Doe w0 w U g (pushS s now b) noAns M') := by
  have hz := dz_start h ⟨1, now, n, b, ⟨ts, tk, tu, to, ta, tb⟩⟩
  unfold opCells ansCells at hz
  simp only [noAns] at hz
  obtain ⟨c, w1, hcv, hbi, hb1, _, _, _⟩ := gc.conv_text b (by omega) (((w.alloc (.cells #[.int .i64 1, .int .i64 now, .int .i64 n, .string b, .string ts, .int .i64 tk, .bool tu, .int .i64 to, .int .i64 ta, .int .i64 tb] 44)).alloc (.cells #[.int .i64 0, .string ⟨#[]⟩, .int .i64 0] 46)).alloc (.cells #[.int .i64 0, .string ⟨#[]⟩, .int .i64 0] 46))
  have hz := hz.on hb1
  have hq : (((w.alloc (.cells #[.int .i64 1, .int .i64 now, .int .i64 n, .string b, .string ts, .int .i64 tk, .bool tu, .int .i64 to, .int .i64 ta, .int .i64 tb] 44)).alloc (.cells #[.int .i64 0, .string ⟨#[]⟩, .int .i64 0] 46)).alloc (.cells #[.int .i64 0, .string ⟨#[]⟩, .int .i64 0] 46)).heap.size = w.heap.size + 3 := by simp
  rw [hq] at hcv hbi
  clear hb1 hq
  have HZ := Lib.hid hz
  clear hz h
  go_enter Tryz.func9, Tryz.ntmps9
  go_wp2_with fail
  refine (force_i HZ.out.hd.1 now rfl hbi hM hf).mono ?_
  rintro e w2 ⟨rfl, hs⟩
  obtain ⟨U2, hz2⟩ := HZ.out.step hs
  have HZ2 := Lib.hid hz2
  clear hs hz2 HZ hcv hbi
  have k3 := HZ2.out.b3
  have k5 := HZ2.out.b5
  have x0 := cell_of_row w2 _ 0 _ _ _ k5
  have x1 := cell_of_row w2 _ 1 _ _ _ k5
  have x2 := cell_of_row w2 _ 2 _ _ _ k5
  have f0 : w2.frozen? ⟨w.heap.size + 2, 0, none⟩ = false := frozen_at k5
  have f1 : w2.frozen? ⟨w.heap.size + 2, 1, none⟩ = false := frozen_at k5
  have f2 : w2.frozen? ⟨w.heap.size + 2, 2, none⟩ = false := frozen_at k5
  have hlt := blk_lt k5
  clear k3 k5
  go_upto_region 17 with fail
  have HZ3 := HZ2
  obtain ⟨w3, hw3⟩ : ∃ w3, w2 = w3 := ⟨_, rfl⟩
  subst hw3
  clear x0 x1 x2 f0 f1 f2 hlt HZ2
  have hk5 := HZ3.out.b5
  have hk4 := HZ3.out.b4
  have x0 := cell_of_row w2 _ 0 _ _ _ hk5
  have x1 := cell_of_row w2 _ 1 _ _ _ hk5
  have x2 := cell_of_row w2 _ 2 _ _ _ hk5
  have y0 := cell_of_row w2 _ 0 _ _ _ hk4
  have y1 := cell_of_row w2 _ 1 _ _ _ hk4
  have y2 := cell_of_row w2 _ 2 _ _ _ hk4
  have f0 : w2.frozen? ⟨w.heap.size + 1, 0, none⟩ = false := frozen_at hk4
  have f1 : w2.frozen? ⟨w.heap.size + 1, 1, none⟩ = false := frozen_at hk4
  have f2 : w2.frozen? ⟨w.heap.size + 1, 2, none⟩ = false := frozen_at hk4
  simp only [noAns] at x0 x1 x2 y0 y1 y2
  have hf := HZ3.out.fin
  have hlt := blk_lt hk4
  have hlt2 := blk_lt hk5
  have HF := Lib.hid hf
  clear hk4 hk5 hf
  go_wp2_with fail
  generalize hW : set3 w2 (w.heap.size + 1) (.int .i64 0) (.string ⟨#[]⟩) (.int .i64 0) = W at *
  unfold set3 at hW
  rw [hW]
  clear hW x0 x1 x2 y0 y1 y2 f0 f1 f2
  obtain ⟨hdd, hzz⟩ := HF.out
  have z0 := cell_of_row W _ 0 _ _ _ hzz
  have z1 := cell_of_row W _ 1 _ _ _ hzz
  have z2 := cell_of_row W _ 2 _ _ _ hzz
  exact bodyPost_ret (v := .agg #[.int .i64 0, .string ⟨#[]⟩, .int .i64 0]) (by simp [results, Tryz.results9, go_sem, z0, z1, z2]) rfl ⟨rfl, hdd⟩
set_option maxRecDepth 100000 in
set_option maxHeartbeats 8000000 in
theorem does2 (h : Hd w0 w U g s M) (now n : Int) (b ts : ByteArray) (tk : Int) (tu : Bool) (to ta tb : Int)  :
    Calls Tryz.prog 9 #[ptr g, .agg #[.int .i64 2, .int .i64 now, .int .i64 n, .string b, .string ts, .int .i64 tk, .bool tu, .int .i64 to, .int .i64 ta, .int .i64 tb]] w (Doe w0 w U g (takeS s now n).1 ⟨0, (takeS s now n).2, 0⟩ M) := by
  have hz := dz_start h ⟨2, now, n, b, ⟨ts, tk, tu, to, ta, tb⟩⟩
  unfold opCells ansCells at hz
  simp only [noAns] at hz
  have HZ := Lib.hid hz
  clear hz h
  go_enter Tryz.func9, Tryz.ntmps9
  go_wp2_with fail
  generalize ((w.alloc (.cells #[.int .i64 2, .int .i64 now, .int .i64 n, .string b, .string ts, .int .i64 tk, .bool tu, .int .i64 to, .int .i64 ta, .int .i64 tb] 44)).alloc (.cells #[.int .i64 0, .string ⟨#[]⟩, .int .i64 0] 46)).alloc (.cells #[.int .i64 0, .string ⟨#[]⟩, .int .i64 0] 46) = w1 at *
  refine (take_i HZ.out.hd.1 now n rfl).mono ?_
  rintro e w2 ⟨q, d, rfl, hi, hT, _, _, hs⟩
  have cv := gc.got_text (d := d) hi hT
  obtain ⟨U2, hz2⟩ := HZ.out.step hs.stp
  have HZ2 := Lib.hid hz2
  clear hs hz2 HZ hi hT
  generalize (takeS s now n).2 = X at *
  have k3 := HZ2.out.b3
  have k5 := HZ2.out.b5
  have x0 := cell_of_row w2 _ 0 _ _ _ k5
  have x1 := cell_of_row w2 _ 1 _ _ _ k5
  have x2 := cell_of_row w2 _ 2 _ _ _ k5
  have f0 : w2.frozen? ⟨w.heap.size + 2, 0, none⟩ = false := frozen_at k5
  have f1 : w2.frozen? ⟨w.heap.size + 2, 1, none⟩ = false := frozen_at k5
  have f2 : w2.frozen? ⟨w.heap.size + 2, 2, none⟩ = false := frozen_at k5
  have hlt := blk_lt k5
  clear k3 k5
  go_upto_region 17 with fail
  have HZ3 := Lib.hid (HZ2.out.setS X)
  generalize w2.setCell ⟨w.heap.size + 2, 1, none⟩ (.string X) = w3 at *
  clear x0 x1 x2 f0 f1 f2 hlt HZ2
  have hk5 := HZ3.out.b5
  have hk4 := HZ3.out.b4
  have x0 := cell_of_row w3 _ 0 _ _ _ hk5
  have x1 := cell_of_row w3 _ 1 _ _ _ hk5
  have x2 := cell_of_row w3 _ 2 _ _ _ hk5
  have y0 := cell_of_row w3 _ 0 _ _ _ hk4
  have y1 := cell_of_row w3 _ 1 _ _ _ hk4
  have y2 := cell_of_row w3 _ 2 _ _ _ hk4
  have f0 : w3.frozen? ⟨w.heap.size + 1, 0, none⟩ = false := frozen_at hk4
  have f1 : w3.frozen? ⟨w.heap.size + 1, 1, none⟩ = false := frozen_at hk4
  have f2 : w3.frozen? ⟨w.heap.size + 1, 2, none⟩ = false := frozen_at hk4
  simp only [noAns] at x0 x1 x2 y0 y1 y2
  have hf := HZ3.out.fin
  have hlt := blk_lt hk4
  have hlt2 := blk_lt hk5
  have HF := Lib.hid hf
  clear hk4 hk5 hf
  go_wp2_with fail
  generalize hW : set3 w3 (w.heap.size + 1) (.int .i64 0) (.string X) (.int .i64 0) = W at *
  unfold set3 at hW
  rw [hW]
  clear hW x0 x1 x2 y0 y1 y2 f0 f1 f2
  obtain ⟨hdd, hzz⟩ := HF.out
  have z0 := cell_of_row W _ 0 _ _ _ hzz
  have z1 := cell_of_row W _ 1 _ _ _ hzz
  have z2 := cell_of_row W _ 2 _ _ _ hzz
  exact bodyPost_ret (v := .agg #[.int .i64 0, .string X, .int .i64 0]) (by simp [results, Tryz.results9, go_sem, z0, z1, z2]) rfl ⟨rfl, hdd⟩
set_option maxRecDepth 100000 in
set_option maxHeartbeats 8000000 in
theorem does6 (h : Hd w0 w U g s M) (now n : Int) (b ts : ByteArray) (tk : Int) (tu : Bool) (to ta tb : Int)  :
    Calls Tryz.prog 9 #[ptr g, .agg #[.int .i64 6, .int .i64 now, .int .i64 n, .string b, .string ts, .int .i64 tk, .bool tu, .int .i64 to, .int .i64 ta, .int .i64 tb]] w (Doe w0 w U g (drainS s).1 ⟨0, (drainS s).2, 0⟩ M) := by
  have hz := dz_start h ⟨6, now, n, b, ⟨ts, tk, tu, to, ta, tb⟩⟩
  unfold opCells ansCells at hz
  simp only [noAns] at hz
  have HZ := Lib.hid hz
  clear hz h
  obtain ⟨v, hv, hcd⟩ := drain_i HZ.out.hd.1
  have HCD := Lib.hid hcd
  clear hcd
  go_enter Tryz.func9, Tryz.ntmps9
  go_wp2_with fail
  generalize ((w.alloc (.cells #[.int .i64 6, .int .i64 now, .int .i64 n, .string b, .string ts, .int .i64 tk, .bool tu, .int .i64 to, .int .i64 ta, .int .i64 tb] 44)).alloc (.cells #[.int .i64 0, .string ⟨#[]⟩, .int .i64 0] 46)).alloc (.cells #[.int .i64 0, .string ⟨#[]⟩, .int .i64 0] 46) = w1 at *
  refine HCD.out.mono ?_
  rintro e w2 ⟨q, d, rfl, hi, hT, _, _, hs⟩
  have cv := gc.got_text (d := d) hi hT
  obtain ⟨U2, hz2⟩ := HZ.out.step hs.stp
  have HZ2 := Lib.hid hz2
  clear hs hz2 HZ hi hT HCD hv
  unfold drainS
  dsimp only
  have k3 := HZ2.out.b3
  have k5 := HZ2.out.b5
  have x0 := cell_of_row w2 _ 0 _ _ _ k5
  have x1 := cell_of_row w2 _ 1 _ _ _ k5
  have x2 := cell_of_row w2 _ 2 _ _ _ k5
  have f0 : w2.frozen? ⟨w.heap.size + 2, 0, none⟩ = false := frozen_at k5
  have f1 : w2.frozen? ⟨w.heap.size + 2, 1, none⟩ = false := frozen_at k5
  have f2 : w2.frozen? ⟨w.heap.size + 2, 2, none⟩ = false := frozen_at k5
  have hlt := blk_lt k5
  clear k3 k5
  go_upto_region 17 with fail
  have HZ3 := Lib.hid (HZ2.out.setS s.S)
  generalize w2.setCell ⟨w.heap.size + 2, 1, none⟩ (.string s.S) = w3 at *
  clear x0 x1 x2 f0 f1 f2 hlt HZ2
  have hk5 := HZ3.out.b5
  have hk4 := HZ3.out.b4
  have x0 := cell_of_row w3 _ 0 _ _ _ hk5
  have x1 := cell_of_row w3 _ 1 _ _ _ hk5
  have x2 := cell_of_row w3 _ 2 _ _ _ hk5
  have y0 := cell_of_row w3 _ 0 _ _ _ hk4
  have y1 := cell_of_row w3 _ 1 _ _ _ hk4
  have y2 := cell_of_row w3 _ 2 _ _ _ hk4
  have f0 : w3.frozen? ⟨w.heap.size + 1, 0, none⟩ = false := frozen_at hk4
  have f1 : w3.frozen? ⟨w.heap.size + 1, 1, none⟩ = false := frozen_at hk4
  have f2 : w3.frozen? ⟨w.heap.size + 1, 2, none⟩ = false := frozen_at hk4
  simp only [noAns] at x0 x1 x2 y0 y1 y2
  have hf := HZ3.out.fin
  have hlt := blk_lt hk4
  have hlt2 := blk_lt hk5
  have HF := Lib.hid hf
  clear hk4 hk5 hf
  go_wp2_with fail
  generalize hW : set3 w3 (w.heap.size + 1) (.int .i64 0) (.string s.S) (.int .i64 0) = W at *
  unfold set3 at hW
  rw [hW]
  clear hW x0 x1 x2 y0 y1 y2 f0 f1 f2
  obtain ⟨hdd, hzz⟩ := HF.out
  have z0 := cell_of_row W _ 0 _ _ _ hzz
  have z1 := cell_of_row W _ 1 _ _ _ hzz
  have z2 := cell_of_row W _ 2 _ _ _ hzz
  exact bodyPost_ret (v := .agg #[.int .i64 0, .string s.S, .int .i64 0]) (by simp [results, Tryz.results9, go_sem, z0, z1, z2]) rfl ⟨rfl, hdd⟩
set_option maxRecDepth 100000 in
set_option maxHeartbeats 8000000 in
theorem does7 (kd : Int) (h : Hd w0 w U g s M) (now n : Int) (b ts : ByteArray) (tk : Int) (tu : Bool) (to ta tb : Int) (hk : kd < 0 ∨ 6 < kd) :
    Calls Tryz.prog 9 #[ptr g, .agg #[.int .i64 kd, .int .i64 now, .int .i64 n, .string b, .string ts, .int .i64 tk, .bool tu, .int .i64 to, .int .i64 ta, .int .i64 tb]] w (Doe w0 w U g s noAns M) := by
  have hz := dz_start h ⟨kd, now, n, b, ⟨ts, tk, tu, to, ta, tb⟩⟩
  unfold opCells ansCells at hz
  simp only [noAns] at hz
  have HZ := Lib.hid hz
  clear hz h
  have b0 : (kd == 0) = false := by simp; omega
  have b1 : (kd == 1) = false := by simp; omega
  have b2 : (kd == 2) = false := by simp; omega
  have b3 : (kd == 3) = false := by simp; omega
  have b4 : (kd == 4) = false := by simp; omega
  have b5 : (kd == 5) = false := by simp; omega
  have b6 : (kd == 6) = false := by simp; omega
  clear hk
  go_enter Tryz.func9, Tryz.ntmps9
  go_upto_region 17 with fail
  have HZ3 := HZ
  generalize ((w.alloc (.cells #[.int .i64 kd, .int .i64 now, .int .i64 n, .string b, .string ts, .int .i64 tk, .bool tu, .int .i64 to, .int .i64 ta, .int .i64 tb] 44)).alloc (.cells #[.int .i64 0, .string ⟨#[]⟩, .int .i64 0] 46)).alloc (.cells #[.int .i64 0, .string ⟨#[]⟩, .int .i64 0] 46) = w2 at *
  clear HZ
  have hk5 := HZ3.out.b5
  have hk4 := HZ3.out.b4
  have x0 := cell_of_row w2 _ 0 _ _ _ hk5
  have x1 := cell_of_row w2 _ 1 _ _ _ hk5
  have x2 := cell_of_row w2 _ 2 _ _ _ hk5
  have y0 := cell_of_row w2 _ 0 _ _ _ hk4
  have y1 := cell_of_row w2 _ 1 _ _ _ hk4
  have y2 := cell_of_row w2 _ 2 _ _ _ hk4
  have f0 : w2.frozen? ⟨w.heap.size + 1, 0, none⟩ = false := frozen_at hk4
  have f1 : w2.frozen? ⟨w.heap.size + 1, 1, none⟩ = false := frozen_at hk4
  have f2 : w2.frozen? ⟨w.heap.size + 1, 2, none⟩ = false := frozen_at hk4
  simp only [noAns] at x0 x1 x2 y0 y1 y2
  have hf := HZ3.out.fin
  have hlt := blk_lt hk4
  have hlt2 := blk_lt hk5
  have HF := Lib.hid hf
  clear hk4 hk5 hf
  go_wp2_with fail
  generalize hW : set3 w2 (w.heap.size + 1) (.int .i64 0) (.string ⟨#[]⟩) (.int .i64 0) = W at *
  unfold set3 at hW
  rw [hW]
  clear hW x0 x1 x2 y0 y1 y2 f0 f1 f2
  obtain ⟨hdd, hzz⟩ := HF.out
  have z0 := cell_of_row W _ 0 _ _ _ hzz
  have z1 := cell_of_row W _ 1 _ _ _ hzz
  have z2 := cell_of_row W _ 2 _ _ _ hzz
  exact bodyPost_ret (v := .agg #[.int .i64 0, .string ⟨#[]⟩, .int .i64 0]) (by simp [results, Tryz.results9, go_sem, z0, z1, z2]) rfl ⟨rfl, hdd⟩
theorem does_any (h : Hd w0 w U g s M) (o : Op) (ht : o.t.s.size ≤ maxLen) (hM : M + o.s.size ≤ M') (hf : M' ≤ 1000000) :
    Calls Tryz.prog 9 #[ptr g, opV o] w (Doe w0 w U g (doS s o).1 (doS s o).2 M') := by
  have up : ∀ {s' : St} {a : Ans} {e : Ending} {W : World}, Doe w0 w U g s' a M e W → Doe w0 w U g s' a M' e W := fun hd => by
    obtain ⟨he, U', h1, h2⟩ := hd
    exact ⟨he, U', h1.mono (by omega) hf, h2⟩
  obtain ⟨kd, now, n, b, ts, tk, tu, to, ta, tb⟩ := o
  unfold doS opV
  dsimp only at ht hM ⊢
  by_cases h0 : kd = 0
  · subst h0
    exact does0 h now n b ts tk tu to ta tb hM hf
  rw [if_neg h0]
  by_cases h1 : kd = 1
  · subst h1
    exact does1 h now n b ts tk tu to ta tb hM hf
  rw [if_neg h1]
  by_cases h2 : kd = 2
  · subst h2
    exact (does2 h now n b ts tk tu to ta tb).mono fun _ _ hd => up hd
  rw [if_neg h2]
  by_cases h3 : kd = 3
  · subst h3
    exact (does3 h now n b ts tk tu to ta tb).mono fun _ _ hd => up hd
  rw [if_neg h3]
  by_cases h4 : kd = 4
  · subst h4
    exact (does4 h now n b ts tk tu to ta tb).mono fun _ _ hd => up hd
  rw [if_neg h4]
  by_cases h5 : kd = 5
  · subst h5
    exact (does5 h now n b ts tk tu to ta tb ht).mono fun _ _ hd => up hd
  rw [if_neg h5]
  by_cases h6 : kd = 6
  · subst h6
    exact (does6 h now n b ts tk tu to ta tb).mono fun _ _ hd => up hd
  rw [if_neg h6]
  exact (does7 kd h now n b ts tk tu to ta tb (by omega)).mono fun _ _ hd => up hd
end
end Go.Proofs.YtlbihcpglcdmmaaGreat
namespace Go.Proofs.YtlbihcpglcdmmaaGreat
open Go.RowKit gc

def at0 : Tox := ⟨⟨#[97]⟩, 1, false, 100, 5, 0⟩
def al0 : St := newS at0 7 9 0
def al1 : St := (bringS al0 0 ⟨#[97, 98]⟩).1
def al2 : St := (takeS al1 4 9).1
def al3 : St := (takeS al2 5 1).1
def al4 : St := closeS al3 5
def al5 : St := lookS al4 5
def al6 : St := (takeS al5 6 9).1
def al7 : St := lookS al6 6
theorem al_new : newE at0 9 = 0 := by decide +kernel
theorem al_put : (bringS al0 0 ⟨#[97, 98]⟩).2 = 2 := by decide +kernel
theorem al_t2 : (takeS al1 4 9).2 = ⟨#[]⟩ := by decide +kernel
theorem al_t3 : (takeS al2 5 1).2 = ⟨#[97]⟩ := by decide +kernel
theorem al_s5 : (lookS al4 5).st = 0 := by decide +kernel
theorem al_t6 : (takeS al5 6 9).2 = ⟨#[98]⟩ := by decide +kernel
theorem al_s7 : (lookS al6 6).st = 1 := by decide +kernel
theorem al_p7 : al7.passed = 2 := by decide +kernel
theorem al_h7 : al7.S.size = 0 := by decide +kernel
theorem made_bytes (w : World) (xs : List Int) (n : Nat) (fr : Nat × Nat) (hn : xs.length = n) : Lib.BytesIn (w.alloc (.cells (xs.map (Value.int .u8)).toArray 5 fr)) (some ⟨w.heap.size, 0, none⟩) n xs := fun _ => ⟨_, _, rfl, fun i hi => by
    rw [World.cell?_alloc_fr]
    simp only [Nat.zero_add, List.getElem?_toArray, List.getElem?_map]
    rw [List.getD_eq_getElem?_getD, List.getElem?_eq_getElem (by omega)]
    rfl⟩
set_option maxRecDepth 100000 in
set_option maxHeartbeats 8000000 in
theorem alive_any (w : World) : Calls Tryz.prog 7 #[] w fun e w' => e = .returned (.bool true) ∧ Below w.heap.size w w' := by
  have kc := fun (w : World) (C : Array Value) (n c : Nat) => Lib.run_convert_bytes_const (P := Tryz.prog) w 67 5 C n c Tryz.underlying67 Tryz.underlying5
  have HN := Lib.hid (new_ok (t := at0) (seed := 7) (room := 9) (now := 0) (by decide) al_new w)
  go_enter Tryz.func7, Tryz.ntmps7
  go_wp2_with fail
  refine HN.out.mono ?_
  rintro e w1 ⟨g, U, rfl, hr, hu, hb⟩
  have H1 := Lib.hid (show Hd w w1 U g al0 0 from ⟨hr, hu, hb⟩)
  clear hr hu hb HN
  go_wp2_with fail
  clear kc
  have hb2 : Below w1.heap.size w1 (w1.alloc (.cells #[.int .u8 97, .int .u8 98] 5 (2, 3))) := (Below.refl _ _).alloc (Nat.le_refl _) _
  have HP := Lib.hid (put_i (H1.out.on hb2).1 0 (p := some ⟨w1.heap.size, 0, none⟩) (n := 2) (c := 2) (b := ⟨#[97, 98]⟩) rfl (made_bytes w1 [97, 98] 2 (2, 3) rfl) (M' := 2) (by decide) (by decide))
  have H2 := Lib.hid (H1.out.on hb2)
  clear hb2 H1
  rw [al_put] at HP
  refine HP.out.mono ?_
  rintro e w2 ⟨rfl, hs⟩
  obtain ⟨U2, h3, _⟩ := H2.out.step hs
  have H3 := Lib.hid (show Hd w w2 U2 g al1 2 from h3)
  clear hs h3 H2 HP
  go_wp2_with fail
  refine (take_i H3.out.1 4 9 al_t2).mono ?_
  rintro e w3 ⟨q3, d3, rfl, _, _, hd3, hd3', hs⟩
  obtain ⟨U3, h4, _⟩ := H3.out.step hs.stp
  have H4 := Lib.hid (show Hd w w3 U3 g al2 2 from h4)
  clear hs h4 H3
  go_wp2_with fail
  refine (take_i H4.out.1 5 1 al_t3).mono ?_
  rintro e w4 ⟨q4, d4, rfl, hi4, _, hd4, hd4', hs⟩
  obtain ⟨U4, h5, _, hf5⟩ := H4.out.stepq hs
  have H5 := Lib.hid (show Hd w w4 U4 g al3 2 from h5)
  have HI5 := Lib.hid hi4
  have HF5 := Lib.hid hf5
  clear hs h5 H4 hi4 hf5
  go_wp2_with fail
  refine (close_i H5.out.1 5).mono ?_
  rintro e w5 ⟨rfl, hs⟩
  obtain ⟨U5, h6, hr6⟩ := H5.out.step hs
  obtain ⟨hi6, hf6⟩ := bytes_rest HI5.out HF5.out hr6 hs.size
  have H6 := Lib.hid (show Hd w w5 U5 g al4 2 from h6)
  have HI6 := Lib.hid hi6
  have HF6 := Lib.hid hf6
  clear hs h6 H5 hr6 hi6 hf6 HI5 HF5
  go_wp2_with fail
  refine (state_i H6.out.1 5).mono ?_
  rintro e w6 ⟨rfl, hs⟩
  rw [al_s5]
  obtain ⟨U6, h7, hr7⟩ := H6.out.step hs
  obtain ⟨hi7, hf7⟩ := bytes_rest HI6.out HF6.out hr7 hs.size
  have H7 := Lib.hid (show Hd w w6 U6 g al5 2 from h7)
  have HI7 := Lib.hid hi7
  have HF7 := Lib.hid hf7
  clear hs h7 H6 hr7 hi7 hf7 HI6 HF6
  go_wp2_with fail
  refine (take_i H7.out.1 6 9 al_t6).mono ?_
  rintro e w7 ⟨q7, d7, rfl, hi, _, hd7, hd7', hs⟩
  obtain ⟨U7, h8, hr8, hf8⟩ := H7.out.stepq hs
  obtain ⟨hi8, _⟩ := bytes_rest HI7.out HF7.out hr8 hs.stp.size
  have H8 := Lib.hid (show Hd w w7 U7 g al6 2 from h8)
  have cv1 : (convert 67 9 (.slice q4 1 d4)).run Tryz.prog w7 = .ok (.string ⟨#[97]⟩) w7 := gc.got_text (d := d4) hi8 rfl
  have cv2 : (convert 67 9 (.slice q7 1 d7)).run Tryz.prog w7 = .ok (.string ⟨#[98]⟩) w7 := gc.got_text (d := d7) hi rfl
  clear hs h8 H7 hr8 hf8 hi8 hi HI7 HF7
  go_wp2_with fail
  clear cv1 cv2
  refine (state_i H8.out.1 6).mono ?_
  rintro e w8 ⟨rfl, hs⟩
  rw [al_s7]
  obtain ⟨U8, h9, _⟩ := H8.out.step hs
  have H9 := Lib.hid (show Hd w w8 U8 g al7 2 from h9)
  clear hs h9 H8
  go_wp2_with fail
  have hp := passed_i H9.out.1
  rw [al_p7] at hp
  refine hp.mono ?_
  rintro e w' ⟨rfl, rfl⟩
  clear hp
  go_wp2_with fail
  have hh := held_i H9.out.1
  rw [al_h7] at hh
  refine hh.mono ?_
  rintro e w' ⟨rfl, rfl⟩
  clear hh
  go_wp2_with fail
  go_ret
  exact ⟨rfl, H9.out.2.2⟩
end Go.Proofs.YtlbihcpglcdmmaaGreat

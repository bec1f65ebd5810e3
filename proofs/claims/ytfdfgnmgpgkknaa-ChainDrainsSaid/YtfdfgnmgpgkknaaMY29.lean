/-
  Contract: what a call of the statements does to the program's chain. Conditions: as each states.
-/
import Derived.Test.YtfdfgnmgpgkknaaMY28
import Derived.Test.YtfdfgnmgpgkknaaMZ49
import Derived.Deep.Cut
namespace Go.Proofs.Ytfdfgnmgpgkknaa
open Go.RowKit
namespace Ch
theorem ans_n {c : Ch} {o : COp} (h : o.kind = 0 ∨ o.kind = 0) : (⟨(c.doA o).n, ⟨#[]⟩, 0⟩ : Ans) = c.doA o := by
  have h : o.kind = 0 := by omega
  unfold doA
  rw [if_pos h]
  split <;> rfl
theorem ans_s {c : Ch} {o : COp} (h : o.kind = 4) : (⟨0, (c.doA o).s, 0⟩ : Ans) = c.doA o := by
  unfold doA
  rw [if_neg (by omega), if_neg (by omega), if_neg (by omega), if_neg (by omega), if_pos h]
  split <;> rfl
theorem ans_e {c : Ch} {o : COp} (h : o.kind = 6 ∨ o.kind = 7) : (⟨0, ⟨#[]⟩, (c.doA o).e⟩ : Ans) = c.doA o := by
  unfold doA
  rw [if_neg (by omega), if_neg (by omega), if_neg (by omega), if_neg (by omega), if_neg (by omega), if_neg (by omega)]
  rcases h with h | h
  · rw [if_pos h]
    split <;> rfl
  · rw [if_neg (by omega), if_pos h]
    split <;> rfl
theorem do_other {c : Ch} {o : COp} (h : ¬ (0 ≤ o.kind ∧ o.kind ≤ 7)) : c.doN o = c ∧ c.doA o = noAns := by
  unfold doN doA
  have h0 : ∀ k : Int, 0 ≤ k → k ≤ 7 → ¬ o.kind = k := fun k h1 h2 e => h (by omega)
  simp only [if_neg (h0 0 (by decide) (by decide)), if_neg (h0 1 (by decide) (by decide)), if_neg (h0 2 (by decide) (by decide)), if_neg (h0 3 (by decide) (by decide)), if_neg (h0 4 (by decide) (by decide)), if_neg (h0 5 (by decide) (by decide)), if_neg (h0 6 (by decide) (by decide)), if_neg (h0 7 (by decide) (by decide))]
  exact ⟨trivial, trivial⟩
end Ch
def vopV (o : COp) : Value := .agg #[.int .i64 o.kind, .int .i64 o.now, .int .i64 o.n, .string o.s, .string o.t.s, .int .i64 o.t.k, .bool o.t.up, .int .i64 o.t.o, .int .i64 o.t.a, .int .i64 o.t.b, .int .u64 o.seed]
def vopC (o : COp) : Obj := .cells #[.int .i64 o.kind, .int .i64 o.now, .int .i64 o.n, .string o.s, .string o.t.s, .int .i64 o.t.k, .bool o.t.up, .int .i64 o.t.o, .int .i64 o.t.a, .int .i64 o.t.b, .int .u64 o.seed] 33
def vanC (a : Ans) : Obj := .cells #[.int .i64 a.n, .string a.s, .int .i64 a.e] 35
def vset3 (w : World) (g : Nat) (a b c : Value) : World := ((w.setCell ⟨g, 0, none⟩ a).setCell ⟨g, 1, none⟩ b).setCell ⟨g, 2, none⟩ c
/-- Inside of does: the stage, the call's own three blocks. -/
structure Cz (w0 w : World) (U : Own) (g : Nat) (s : Ch) (M : Nat) (o : COp) (a : Ans) (W : World) (U' : Own) : Prop where
  hd : CHd w0 W U' g s M
  rest : Rest w U W U'
  up : w0.heap.size ≤ w.heap.size
  b3 : W.heap[w.heap.size]? = some (vopC o)
  b4 : W.heap[w.heap.size + 1]? = some (vanC noAns)
  b5 : W.heap[w.heap.size + 2]? = some (vanC a)
  n3 : ¬ U' w.heap.size
  n4 : ¬ U' (w.heap.size + 1)
  n5 : ¬ U' (w.heap.size + 2)
theorem vthree (w : World) (o0 o1 o2 : Obj) : (((w.alloc o0).alloc o1).alloc o2).heap[w.heap.size]? = some o0 ∧ (((w.alloc o0).alloc o1).alloc o2).heap[w.heap.size + 1]? = some o1 ∧ (((w.alloc o0).alloc o1).alloc o2).heap[w.heap.size + 2]? = some o2 := by
  have s1 : (w.alloc o0).heap.size = w.heap.size + 1 := by simp
  have s2 : ((w.alloc o0).alloc o1).heap.size = w.heap.size + 2 := by simp
  have b1 : Below (w.alloc o0).heap.size (w.alloc o0) ((w.alloc o0).alloc o1) := (Below.refl _ _).alloc (Nat.le_refl _) _
  have b2 : Below ((w.alloc o0).alloc o1).heap.size ((w.alloc o0).alloc o1) (((w.alloc o0).alloc o1).alloc o2) := (Below.refl _ _).alloc (Nat.le_refl _) _
  have h0 := heap_alloc_new w o0
  have h1 := heap_alloc_new (w.alloc o0) o1
  have h2 := heap_alloc_new ((w.alloc o0).alloc o1) o2
  rw [s1] at h1
  rw [s2] at h2
  exact ⟨(b2.block _ (by omega)).trans ((b1.block _ (by omega)).trans h0), (b2.block _ (by omega)).trans h1, h2⟩
section
variable {w0 w W W' : World} {U U1 U' : Own} {g : Nat} {s s' : Ch} {M M' : Nat} {o : COp} {a : Ans}
theorem cz_start (h : CHd w0 w U g s M) (o : COp) : Cz w0 w U g s M o noAns (((w.alloc (vopC o)).alloc (vanC noAns)).alloc (vanC noAns)) U := by
  have hb : Below w.heap.size w (((w.alloc (vopC o)).alloc (vanC noAns)).alloc (vanC noAns)) := (((Below.refl _ _).alloc (Nat.le_refl _) _).alloc (by simp) _).alloc (by simp; omega) _
  obtain ⟨h3, h4, h5⟩ := vthree w (vopC o) (vanC noAns) (vanC noAns)
  exact ⟨h.on hb, fun i hi hu => ⟨hb.block i hi, hu⟩, h.2.2.size, h3, h4, h5, h.new (Nat.le_refl _), h.new (by omega), h.new (by omega)⟩
theorem Cz.on (h : Cz w0 w U g s M o a W U') (hb : Below W.heap.size W W') : Cz w0 w U g s M o a W' U' :=
  ⟨h.hd.on hb, fun i hi hu => by
    have hh := h.rest i hi hu
    exact ⟨(hb.block i (Nat.lt_of_lt_of_le hi (Nat.le_trans (Nat.le_of_lt (gb.blk_lt h.b3)) (Nat.le_refl _)))).trans hh.1, hh.2⟩, h.up, (hb.block _ (gb.blk_lt h.b3)).trans h.b3, (hb.block _ (gb.blk_lt h.b4)).trans h.b4, (hb.block _ (gb.blk_lt h.b5)).trans h.b5, h.n3, h.n4, h.n5⟩
theorem Cz.step (h : Cz w0 w U g s M o a W U1) (hs : CStp W U1 g s' M' W') : ∃ U', Cz w0 w U g s' M' o a W' U' := by
  obtain ⟨U', hd, hr⟩ := h.hd.step hs
  have r3 := hr _ (gb.blk_lt h.b3) h.n3
  have r4 := hr _ (gb.blk_lt h.b4) h.n4
  have r5 := hr _ (gb.blk_lt h.b5) h.n5
  refine ⟨U', hd, fun i hi hu => ?_, h.up, r3.1.trans h.b3, r4.1.trans h.b4, r5.1.trans h.b5, r3.2, r4.2, r5.2⟩
  have h1 := h.rest i hi hu
  have h2 := hr i (Nat.lt_trans hi (gb.blk_lt h.b3)) h1.2
  exact ⟨h2.1.trans h1.1, h2.2⟩
/-- A store into the answer. -/
theorem Cz.set (h : Cz w0 w U g s M o a W U') {k : Nat} {v : Value} {a' : Ans} (ha : (W.setCell ⟨w.heap.size + 2, k, none⟩ v).heap[w.heap.size + 2]? = some (vanC a')) : Cz w0 w U g s M o a' (W.setCell ⟨w.heap.size + 2, k, none⟩ v) U' :=
  ⟨h.hd.set h.n5 (by have := h.up; omega) v, fun i hi hu => by
    have hh := h.rest i hi hu
    exact ⟨(Below.heap_setCell _ _ _ _ (show i ≠ w.heap.size + 2 by omega)).trans hh.1, hh.2⟩, h.up, (Below.heap_setCell _ _ _ _ (show w.heap.size ≠ w.heap.size + 2 by omega)).trans h.b3, (Below.heap_setCell _ _ _ _ (show w.heap.size + 1 ≠ w.heap.size + 2 by omega)).trans h.b4, ha, h.n3, h.n4, h.n5⟩
theorem Cz.setN (h : Cz w0 w U g s M o a W U') (x : Int) : Cz w0 w U g s M o ⟨x, a.s, a.e⟩ (W.setCell ⟨w.heap.size + 2, 0, none⟩ (.int .i64 x)) U' := h.set (by rw [gb.set_heap h.b5]; rfl)
theorem Cz.setS (h : Cz w0 w U g s M o a W U') (x : ByteArray) : Cz w0 w U g s M o ⟨a.n, x, a.e⟩ (W.setCell ⟨w.heap.size + 2, 1, none⟩ (.string x)) U' := h.set (by rw [gb.set_heap h.b5]; rfl)
theorem Cz.setE (h : Cz w0 w U g s M o a W U') (x : Int) : Cz w0 w U g s M o ⟨a.n, a.s, x⟩ (W.setCell ⟨w.heap.size + 2, 2, none⟩ (.int .i64 x)) U' := h.set (by rw [gb.set_heap h.b5]; rfl)
/-- What does hands back. -/
def CDoe (w0 w : World) (U : Own) (g : Nat) (s : Ch) (a : Ans) (M : Nat) (e : Ending) (W : World) : Prop := e = .returned (.agg #[.int .i64 a.n, .string a.s, .int .i64 a.e]) ∧ ∃ U', CHd w0 W U' g s M ∧ Rest w U W U'
theorem Cz.fin (h : Cz w0 w U g s M o a W U') : (∃ U'', CHd w0 (vset3 W (w.heap.size + 1) (.int .i64 a.n) (.string a.s) (.int .i64 a.e)) U'' g s M ∧ Rest w U (vset3 W (w.heap.size + 1) (.int .i64 a.n) (.string a.s) (.int .i64 a.e)) U'') ∧
    (vset3 W (w.heap.size + 1) (.int .i64 a.n) (.string a.s) (.int .i64 a.e)).heap[w.heap.size + 1]? = some (vanC a) := by
  have hu := h.up
  have h1 := h.hd.set (k := 0) h.n4 (by omega) (.int .i64 a.n)
  have h2 := h1.set (k := 1) h.n4 (by omega) (.string a.s)
  have h3 := h2.set (k := 2) h.n4 (by omega) (.int .i64 a.e)
  refine ⟨⟨U', h3, fun i hi hx => ?_⟩, ?_⟩
  · have hh := h.rest i hi hx
    refine ⟨?_, hh.2⟩
    unfold vset3
    rw [Below.heap_setCell _ _ _ _ (show i ≠ w.heap.size + 1 by omega), Below.heap_setCell _ _ _ _ (show i ≠ w.heap.size + 1 by omega), Below.heap_setCell _ _ _ _ (show i ≠ w.heap.size + 1 by omega)]
    exact hh.1
  · unfold vset3
    rw [gb.set_heap (gb.set_heap (gb.set_heap h.b4 _) _) _]
    rfl
end
section
variable {w0 w : World} {U : Own} {g : Nat} {s : Ch} {M M' : Nat}
set_option maxRecDepth 100000 in
set_option maxHeartbeats 8000000 in
theorem vdoes0 (h : CHd w0 w U g s M) (now n : Int) (b ts : ByteArray) (tk : Int) (tu : Bool) (to ta tb sd : Int) (hM : M + b.size ≤ M') (hf : M' ≤ 400000) :
    Calls Try.prog 11 #[ptr g, .agg #[.int .i64 0, .int .i64 now, .int .i64 n, .string b, .string ts, .int .i64 tk, .bool tu, .int .i64 to, .int .i64 ta, .int .i64 tb, .int .u64 sd]] w (CDoe w0 w U g (s.doN ⟨0, now, n, b, ⟨ts, tk, tu, to, ta, tb⟩, sd⟩) ⟨(s.doA ⟨0, now, n, b, ⟨ts, tk, tu, to, ta, tb⟩, sd⟩).n, ⟨#[]⟩, 0⟩ M') := by
  have hz := cz_start h ⟨0, now, n, b, ⟨ts, tk, tu, to, ta, tb⟩, sd⟩
  unfold vopC vanC at hz
  simp only [noAns] at hz
  obtain ⟨c, w1, hcv, hbi, hb1, _, _, hnc⟩ := gc.conv_text b (by omega) (((w.alloc (.cells #[.int .i64 0, .int .i64 now, .int .i64 n, .string b, .string ts, .int .i64 tk, .bool tu, .int .i64 to, .int .i64 ta, .int .i64 tb, .int .u64 sd] 33)).alloc (.cells #[.int .i64 0, .string ⟨#[]⟩, .int .i64 0] 35)).alloc (.cells #[.int .i64 0, .string ⟨#[]⟩, .int .i64 0] 35))
  have hz := hz.on hb1
  have hq : (((w.alloc (.cells #[.int .i64 0, .int .i64 now, .int .i64 n, .string b, .string ts, .int .i64 tk, .bool tu, .int .i64 to, .int .i64 ta, .int .i64 tb, .int .u64 sd] 33)).alloc (.cells #[.int .i64 0, .string ⟨#[]⟩, .int .i64 0] 35)).alloc (.cells #[.int .i64 0, .string ⟨#[]⟩, .int .i64 0] 35)).heap.size = w.heap.size + 3 := by simp
  rw [hq] at hcv hbi
  clear hb1 hq
  have HZ := Lib.hid hz
  clear hz h
  go_enter Try.func11, Try.ntmps11
  go_wp2_with fail
  refine (put_v HZ.out.hd.1 now n ⟨ts, tk, tu, to, ta, tb⟩ sd rfl hbi (by omega) hM hf).mono ?_
  rintro e w2 ⟨rfl, hs⟩
  obtain ⟨U2, hz2⟩ := HZ.out.step hs
  have HZ2 := Lib.hid hz2
  clear hs hz2 HZ hcv hbi
  generalize (s.doA ⟨0, now, n, b, ⟨ts, tk, tu, to, ta, tb⟩, sd⟩).n = X at *
  have k3 := HZ2.out.b3
  have k5 := HZ2.out.b5
  have x0 := cell_of_row w2 _ 0 _ _ _ k5
  have x1 := cell_of_row w2 _ 1 _ _ _ k5
  have x2 := cell_of_row w2 _ 2 _ _ _ k5
  have f0 : w2.frozen? ⟨w.heap.size + 2, 0, none⟩ = false := gb.frozen_at k5
  have f1 : w2.frozen? ⟨w.heap.size + 2, 1, none⟩ = false := gb.frozen_at k5
  have f2 : w2.frozen? ⟨w.heap.size + 2, 2, none⟩ = false := gb.frozen_at k5
  have hlt := gb.blk_lt k5
  clear k3 k5
  go_upto_region 19 with fail
  have HZ3 := Lib.hid (HZ2.out.setN X)
  generalize w2.setCell ⟨w.heap.size + 2, 0, none⟩ (.int .i64 X) = w3 at *
  clear x0 x1 x2 f0 f1 f2 hlt HZ2
  have hk5 := HZ3.out.b5
  have hk4 := HZ3.out.b4
  have x0 := cell_of_row w3 _ 0 _ _ _ hk5
  have x1 := cell_of_row w3 _ 1 _ _ _ hk5
  have x2 := cell_of_row w3 _ 2 _ _ _ hk5
  have y0 := cell_of_row w3 _ 0 _ _ _ hk4
  have y1 := cell_of_row w3 _ 1 _ _ _ hk4
  have y2 := cell_of_row w3 _ 2 _ _ _ hk4
  have f0 : w3.frozen? ⟨w.heap.size + 1, 0, none⟩ = false := gb.frozen_at hk4
  have f1 : w3.frozen? ⟨w.heap.size + 1, 1, none⟩ = false := gb.frozen_at hk4
  have f2 : w3.frozen? ⟨w.heap.size + 1, 2, none⟩ = false := gb.frozen_at hk4
  simp only [noAns] at x0 x1 x2 y0 y1 y2
  have hf := HZ3.out.fin
  have hlt := gb.blk_lt hk4
  have hlt2 := gb.blk_lt hk5
  have HF := Lib.hid hf
  clear hk4 hk5 hf
  go_wp2_with fail
  generalize hW : vset3 w3 (w.heap.size + 1) (.int .i64 X) (.string ⟨#[]⟩) (.int .i64 0) = W at *
  unfold vset3 at hW
  rw [hW]
  clear hW x0 x1 x2 y0 y1 y2 f0 f1 f2
  obtain ⟨hdd, hzz⟩ := HF.out
  have z0 := cell_of_row W _ 0 _ _ _ hzz
  have z1 := cell_of_row W _ 1 _ _ _ hzz
  have z2 := cell_of_row W _ 2 _ _ _ hzz
  exact bodyPost_ret (v := .agg #[.int .i64 X, .string ⟨#[]⟩, .int .i64 0]) (by simp [results, Try.results11, go_sem, z0, z1, z2]) rfl ⟨rfl, hdd⟩
set_option maxRecDepth 100000 in
set_option maxHeartbeats 8000000 in
theorem vdoes1 (h : CHd w0 w U g s M) (now n : Int) (b ts : ByteArray) (tk : Int) (tu : Bool) (to ta tb sd : Int) :
    Calls Try.prog 11 #[ptr g, .agg #[.int .i64 1, .int .i64 now, .int .i64 n, .string b, .string ts, .int .i64 tk, .bool tu, .int .i64 to, .int .i64 ta, .int .i64 tb, .int .u64 sd]] w (CDoe w0 w U g (s.doN ⟨1, now, n, b, ⟨ts, tk, tu, to, ta, tb⟩, sd⟩) noAns M) := by
  have hz := cz_start h ⟨1, now, n, b, ⟨ts, tk, tu, to, ta, tb⟩, sd⟩
  unfold vopC vanC at hz
  simp only [noAns] at hz
  have HZ := Lib.hid hz
  clear hz h
  go_enter Try.func11, Try.ntmps11
  go_wp2_with fail
  generalize ((w.alloc (.cells #[.int .i64 1, .int .i64 now, .int .i64 n, .string b, .string ts, .int .i64 tk, .bool tu, .int .i64 to, .int .i64 ta, .int .i64 tb, .int .u64 sd] 33)).alloc (.cells #[.int .i64 0, .string ⟨#[]⟩, .int .i64 0] 35)).alloc (.cells #[.int .i64 0, .string ⟨#[]⟩, .int .i64 0] 35) = w1 at *
  refine (close_v HZ.out.hd.1 now n b ⟨ts, tk, tu, to, ta, tb⟩ sd).mono ?_
  rintro e w2 ⟨rfl, hs⟩
  obtain ⟨U2, hz2⟩ := HZ.out.step hs
  have HZ2 := Lib.hid hz2
  clear hs hz2 HZ
  have k3 := HZ2.out.b3
  have k5 := HZ2.out.b5
  have x0 := cell_of_row w2 _ 0 _ _ _ k5
  have x1 := cell_of_row w2 _ 1 _ _ _ k5
  have x2 := cell_of_row w2 _ 2 _ _ _ k5
  have f0 : w2.frozen? ⟨w.heap.size + 2, 0, none⟩ = false := gb.frozen_at k5
  have f1 : w2.frozen? ⟨w.heap.size + 2, 1, none⟩ = false := gb.frozen_at k5
  have f2 : w2.frozen? ⟨w.heap.size + 2, 2, none⟩ = false := gb.frozen_at k5
  have hlt := gb.blk_lt k5
  clear k3 k5
  go_upto_region 19 with fail
  have HZ3 := HZ2
  obtain ⟨w3, hw3⟩ : ∃ w3, w2 = w3 := ⟨_, rfl⟩
  subst hw3
  clear x0 x1 x2 f0 f1 f2 hlt HZ2
  have hk5 := HZ3.out.b5
  have hk4 := HZ3.out.b4
  have x0 := cell_of_row w2 _ 0 _ _ _ hk5
  have x1 := cell_of_row w2 _ 1 _ _ _ hk5
  have x2 := cell_of_row w2 _ 2 _ _ _ hk5
  have y0 := cell_of_row w2 _ 0 _ _ _ hk4
  have y1 := cell_of_row w2 _ 1 _ _ _ hk4
  have y2 := cell_of_row w2 _ 2 _ _ _ hk4
  have f0 : w2.frozen? ⟨w.heap.size + 1, 0, none⟩ = false := gb.frozen_at hk4
  have f1 : w2.frozen? ⟨w.heap.size + 1, 1, none⟩ = false := gb.frozen_at hk4
  have f2 : w2.frozen? ⟨w.heap.size + 1, 2, none⟩ = false := gb.frozen_at hk4
  simp only [noAns] at x0 x1 x2 y0 y1 y2
  have hf := HZ3.out.fin
  have hlt := gb.blk_lt hk4
  have hlt2 := gb.blk_lt hk5
  have HF := Lib.hid hf
  clear hk4 hk5 hf
  go_wp2_with fail
  generalize hW : vset3 w2 (w.heap.size + 1) (.int .i64 0) (.string ⟨#[]⟩) (.int .i64 0) = W at *
  unfold vset3 at hW
  rw [hW]
  clear hW x0 x1 x2 y0 y1 y2 f0 f1 f2
  obtain ⟨hdd, hzz⟩ := HF.out
  have z0 := cell_of_row W _ 0 _ _ _ hzz
  have z1 := cell_of_row W _ 1 _ _ _ hzz
  have z2 := cell_of_row W _ 2 _ _ _ hzz
  exact bodyPost_ret (v := .agg #[.int .i64 0, .string ⟨#[]⟩, .int .i64 0]) (by simp [results, Try.results11, go_sem, z0, z1, z2]) rfl ⟨rfl, hdd⟩
set_option maxRecDepth 100000 in
set_option maxHeartbeats 8000000 in
theorem vdoes2 (h : CHd w0 w U g s M) (now n : Int) (b ts : ByteArray) (tk : Int) (tu : Bool) (to ta tb sd : Int) :
    Calls Try.prog 11 #[ptr g, .agg #[.int .i64 2, .int .i64 now, .int .i64 n, .string b, .string ts, .int .i64 tk, .bool tu, .int .i64 to, .int .i64 ta, .int .i64 tb, .int .u64 sd]] w (CDoe w0 w U g (s.doN ⟨2, now, n, b, ⟨ts, tk, tu, to, ta, tb⟩, sd⟩) noAns M) := by
  have hz := cz_start h ⟨2, now, n, b, ⟨ts, tk, tu, to, ta, tb⟩, sd⟩
  unfold vopC vanC at hz
  simp only [noAns] at hz
  have HZ := Lib.hid hz
  clear hz h
  go_enter Try.func11, Try.ntmps11
  go_wp2_with fail
  generalize ((w.alloc (.cells #[.int .i64 2, .int .i64 now, .int .i64 n, .string b, .string ts, .int .i64 tk, .bool tu, .int .i64 to, .int .i64 ta, .int .i64 tb, .int .u64 sd] 33)).alloc (.cells #[.int .i64 0, .string ⟨#[]⟩, .int .i64 0] 35)).alloc (.cells #[.int .i64 0, .string ⟨#[]⟩, .int .i64 0] 35) = w1 at *
  refine (break_v HZ.out.hd.1 now n b ⟨ts, tk, tu, to, ta, tb⟩ sd).mono ?_
  rintro e w2 ⟨rfl, hs⟩
  obtain ⟨U2, hz2⟩ := HZ.out.step hs
  have HZ2 := Lib.hid hz2
  clear hs hz2 HZ
  have k3 := HZ2.out.b3
  have k5 := HZ2.out.b5
  have x0 := cell_of_row w2 _ 0 _ _ _ k5
  have x1 := cell_of_row w2 _ 1 _ _ _ k5
  have x2 := cell_of_row w2 _ 2 _ _ _ k5
  have f0 : w2.frozen? ⟨w.heap.size + 2, 0, none⟩ = false := gb.frozen_at k5
  have f1 : w2.frozen? ⟨w.heap.size + 2, 1, none⟩ = false := gb.frozen_at k5
  have f2 : w2.frozen? ⟨w.heap.size + 2, 2, none⟩ = false := gb.frozen_at k5
  have hlt := gb.blk_lt k5
  clear k3 k5
  go_upto_region 19 with fail
  have HZ3 := HZ2
  obtain ⟨w3, hw3⟩ : ∃ w3, w2 = w3 := ⟨_, rfl⟩
  subst hw3
  clear x0 x1 x2 f0 f1 f2 hlt HZ2
  have hk5 := HZ3.out.b5
  have hk4 := HZ3.out.b4
  have x0 := cell_of_row w2 _ 0 _ _ _ hk5
  have x1 := cell_of_row w2 _ 1 _ _ _ hk5
  have x2 := cell_of_row w2 _ 2 _ _ _ hk5
  have y0 := cell_of_row w2 _ 0 _ _ _ hk4
  have y1 := cell_of_row w2 _ 1 _ _ _ hk4
  have y2 := cell_of_row w2 _ 2 _ _ _ hk4
  have f0 : w2.frozen? ⟨w.heap.size + 1, 0, none⟩ = false := gb.frozen_at hk4
  have f1 : w2.frozen? ⟨w.heap.size + 1, 1, none⟩ = false := gb.frozen_at hk4
  have f2 : w2.frozen? ⟨w.heap.size + 1, 2, none⟩ = false := gb.frozen_at hk4
  simp only [noAns] at x0 x1 x2 y0 y1 y2
  have hf := HZ3.out.fin
  have hlt := gb.blk_lt hk4
  have hlt2 := gb.blk_lt hk5
  have HF := Lib.hid hf
  clear hk4 hk5 hf
  go_wp2_with fail
  generalize hW : vset3 w2 (w.heap.size + 1) (.int .i64 0) (.string ⟨#[]⟩) (.int .i64 0) = W at *
  unfold vset3 at hW
  rw [hW]
  clear hW x0 x1 x2 y0 y1 y2 f0 f1 f2
  obtain ⟨hdd, hzz⟩ := HF.out
  have z0 := cell_of_row W _ 0 _ _ _ hzz
  have z1 := cell_of_row W _ 1 _ _ _ hzz
  have z2 := cell_of_row W _ 2 _ _ _ hzz
  exact bodyPost_ret (v := .agg #[.int .i64 0, .string ⟨#[]⟩, .int .i64 0]) (by simp [results, Try.results11, go_sem, z0, z1, z2]) rfl ⟨rfl, hdd⟩
set_option maxRecDepth 100000 in
set_option maxHeartbeats 8000000 in
theorem vdoes3 (h : CHd w0 w U g s M) (now n : Int) (b ts : ByteArray) (tk : Int) (tu : Bool) (to ta tb sd : Int) :
    Calls Try.prog 11 #[ptr g, .agg #[.int .i64 3, .int .i64 now, .int .i64 n, .string b, .string ts, .int .i64 tk, .bool tu, .int .i64 to, .int .i64 ta, .int .i64 tb, .int .u64 sd]] w (CDoe w0 w U g (s.doN ⟨3, now, n, b, ⟨ts, tk, tu, to, ta, tb⟩, sd⟩) ⟨(s.doA ⟨3, now, n, b, ⟨ts, tk, tu, to, ta, tb⟩, sd⟩).n, ⟨#[]⟩, 0⟩ M) := by
  have hz := cz_start h ⟨3, now, n, b, ⟨ts, tk, tu, to, ta, tb⟩, sd⟩
  unfold vopC vanC at hz
  simp only [noAns] at hz
  have HZ := Lib.hid hz
  clear hz h
  go_enter Try.func11, Try.ntmps11
  go_wp2_with fail
  generalize ((w.alloc (.cells #[.int .i64 3, .int .i64 now, .int .i64 n, .string b, .string ts, .int .i64 tk, .bool tu, .int .i64 to, .int .i64 ta, .int .i64 tb, .int .u64 sd] 33)).alloc (.cells #[.int .i64 0, .string ⟨#[]⟩, .int .i64 0] 35)).alloc (.cells #[.int .i64 0, .string ⟨#[]⟩, .int .i64 0] 35) = w1 at *
  refine (step_v HZ.out.hd.1 now n b ⟨ts, tk, tu, to, ta, tb⟩ sd).mono ?_
  rintro e w2 ⟨rfl, hs⟩
  obtain ⟨U2, hz2⟩ := HZ.out.step hs
  have HZ2 := Lib.hid hz2
  clear hs hz2 HZ
  generalize (s.doA ⟨3, now, n, b, ⟨ts, tk, tu, to, ta, tb⟩, sd⟩).n = X at *
  have k3 := HZ2.out.b3
  have k5 := HZ2.out.b5
  have x0 := cell_of_row w2 _ 0 _ _ _ k5
  have x1 := cell_of_row w2 _ 1 _ _ _ k5
  have x2 := cell_of_row w2 _ 2 _ _ _ k5
  have f0 : w2.frozen? ⟨w.heap.size + 2, 0, none⟩ = false := gb.frozen_at k5
  have f1 : w2.frozen? ⟨w.heap.size + 2, 1, none⟩ = false := gb.frozen_at k5
  have f2 : w2.frozen? ⟨w.heap.size + 2, 2, none⟩ = false := gb.frozen_at k5
  have hlt := gb.blk_lt k5
  clear k3 k5
  go_upto_region 19 with fail
  have HZ3 := Lib.hid (HZ2.out.setN X)
  generalize w2.setCell ⟨w.heap.size + 2, 0, none⟩ (.int .i64 X) = w3 at *
  clear x0 x1 x2 f0 f1 f2 hlt HZ2
  have hk5 := HZ3.out.b5
  have hk4 := HZ3.out.b4
  have x0 := cell_of_row w3 _ 0 _ _ _ hk5
  have x1 := cell_of_row w3 _ 1 _ _ _ hk5
  have x2 := cell_of_row w3 _ 2 _ _ _ hk5
  have y0 := cell_of_row w3 _ 0 _ _ _ hk4
  have y1 := cell_of_row w3 _ 1 _ _ _ hk4
  have y2 := cell_of_row w3 _ 2 _ _ _ hk4
  have f0 : w3.frozen? ⟨w.heap.size + 1, 0, none⟩ = false := gb.frozen_at hk4
  have f1 : w3.frozen? ⟨w.heap.size + 1, 1, none⟩ = false := gb.frozen_at hk4
  have f2 : w3.frozen? ⟨w.heap.size + 1, 2, none⟩ = false := gb.frozen_at hk4
  simp only [noAns] at x0 x1 x2 y0 y1 y2
  have hf := HZ3.out.fin
  have hlt := gb.blk_lt hk4
  have hlt2 := gb.blk_lt hk5
  have HF := Lib.hid hf
  clear hk4 hk5 hf
  go_wp2_with fail
  generalize hW : vset3 w3 (w.heap.size + 1) (.int .i64 X) (.string ⟨#[]⟩) (.int .i64 0) = W at *
  unfold vset3 at hW
  rw [hW]
  clear hW x0 x1 x2 y0 y1 y2 f0 f1 f2
  obtain ⟨hdd, hzz⟩ := HF.out
  have z0 := cell_of_row W _ 0 _ _ _ hzz
  have z1 := cell_of_row W _ 1 _ _ _ hzz
  have z2 := cell_of_row W _ 2 _ _ _ hzz
  exact bodyPost_ret (v := .agg #[.int .i64 X, .string ⟨#[]⟩, .int .i64 0]) (by simp [results, Try.results11, go_sem, z0, z1, z2]) rfl ⟨rfl, hdd⟩
set_option maxRecDepth 100000 in
set_option maxHeartbeats 8000000 in
theorem vdoes4 (h : CHd w0 w U g s M) (now n : Int) (b ts : ByteArray) (tk : Int) (tu : Bool) (to ta tb sd : Int) :
    Calls Try.prog 11 #[ptr g, .agg #[.int .i64 4, .int .i64 now, .int .i64 n, .string b, .string ts, .int .i64 tk, .bool tu, .int .i64 to, .int .i64 ta, .int .i64 tb, .int .u64 sd]] w (CDoe w0 w U g (s.doN ⟨4, now, n, b, ⟨ts, tk, tu, to, ta, tb⟩, sd⟩) ⟨0, (s.doA ⟨4, now, n, b, ⟨ts, tk, tu, to, ta, tb⟩, sd⟩).s, 0⟩ M) := by
  have hz := cz_start h ⟨4, now, n, b, ⟨ts, tk, tu, to, ta, tb⟩, sd⟩
  unfold vopC vanC at hz
  simp only [noAns] at hz
  have HZ := Lib.hid hz
  clear hz h
  go_enter Try.func11, Try.ntmps11
  go_wp2_with fail
  generalize ((w.alloc (.cells #[.int .i64 4, .int .i64 now, .int .i64 n, .string b, .string ts, .int .i64 tk, .bool tu, .int .i64 to, .int .i64 ta, .int .i64 tb, .int .u64 sd] 33)).alloc (.cells #[.int .i64 0, .string ⟨#[]⟩, .int .i64 0] 35)).alloc (.cells #[.int .i64 0, .string ⟨#[]⟩, .int .i64 0] 35) = w1 at *
  refine (take_v HZ.out.hd.1 now n b ⟨ts, tk, tu, to, ta, tb⟩ sd).mono ?_
  rintro e w2 ⟨q, d, rfl, hi, _, _, hs⟩
  have cv := gc.got_text (d := d) hi rfl
  obtain ⟨U2, hz2⟩ := HZ.out.step hs
  have HZ2 := Lib.hid hz2
  clear hs hz2 HZ hi
  generalize (s.doA ⟨4, now, n, b, ⟨ts, tk, tu, to, ta, tb⟩, sd⟩).s = X at *
  have k3 := HZ2.out.b3
  have k5 := HZ2.out.b5
  have x0 := cell_of_row w2 _ 0 _ _ _ k5
  have x1 := cell_of_row w2 _ 1 _ _ _ k5
  have x2 := cell_of_row w2 _ 2 _ _ _ k5
  have f0 : w2.frozen? ⟨w.heap.size + 2, 0, none⟩ = false := gb.frozen_at k5
  have f1 : w2.frozen? ⟨w.heap.size + 2, 1, none⟩ = false := gb.frozen_at k5
  have f2 : w2.frozen? ⟨w.heap.size + 2, 2, none⟩ = false := gb.frozen_at k5
  have hlt := gb.blk_lt k5
  clear k3 k5
  go_upto_region 19 with fail
  have HZ3 := Lib.hid (HZ2.out.setS X)
  generalize w2.setCell ⟨w.heap.size + 2, 1, none⟩ (.string X) = w3 at *
  clear x0 x1 x2 f0 f1 f2 hlt HZ2
  have hk5 := HZ3.out.b5
  have hk4 := HZ3.out.b4
  have x0 := cell_of_row w3 _ 0 _ _ _ hk5
  have x1 := cell_of_row w3 _ 1 _ _ _ hk5
  have x2 := cell_of_row w3 _ 2 _ _ _ hk5
  have y0 := cell_of_row w3 _ 0 _ _ _ hk4
  have y1 := cell_of_row w3 _ 1 _ _ _ hk4
  have y2 := cell_of_row w3 _ 2 _ _ _ hk4
  have f0 : w3.frozen? ⟨w.heap.size + 1, 0, none⟩ = false := gb.frozen_at hk4
  have f1 : w3.frozen? ⟨w.heap.size + 1, 1, none⟩ = false := gb.frozen_at hk4
  have f2 : w3.frozen? ⟨w.heap.size + 1, 2, none⟩ = false := gb.frozen_at hk4
  simp only [noAns] at x0 x1 x2 y0 y1 y2
  have hf := HZ3.out.fin
  have hlt := gb.blk_lt hk4
  have hlt2 := gb.blk_lt hk5
  have HF := Lib.hid hf
  clear hk4 hk5 hf
  go_wp2_with fail
  generalize hW : vset3 w3 (w.heap.size + 1) (.int .i64 0) (.string X) (.int .i64 0) = W at *
  unfold vset3 at hW
  rw [hW]
  clear hW x0 x1 x2 y0 y1 y2 f0 f1 f2
  obtain ⟨hdd, hzz⟩ := HF.out
  have z0 := cell_of_row W _ 0 _ _ _ hzz
  have z1 := cell_of_row W _ 1 _ _ _ hzz
  have z2 := cell_of_row W _ 2 _ _ _ hzz
  exact bodyPost_ret (v := .agg #[.int .i64 0, .string X, .int .i64 0]) (by simp [results, Try.results11, go_sem, z0, z1, z2]) rfl ⟨rfl, hdd⟩
set_option maxRecDepth 100000 in
set_option maxHeartbeats 8000000 in
theorem vdoes5 (h : CHd w0 w U g s M) (now n : Int) (b ts : ByteArray) (tk : Int) (tu : Bool) (to ta tb sd : Int) (hts : ts.size ≤ maxLen) :
    Calls Try.prog 11 #[ptr g, .agg #[.int .i64 5, .int .i64 now, .int .i64 n, .string b, .string ts, .int .i64 tk, .bool tu, .int .i64 to, .int .i64 ta, .int .i64 tb, .int .u64 sd]] w (CDoe w0 w U g (s.doN ⟨5, now, n, b, ⟨ts, tk, tu, to, ta, tb⟩, sd⟩) ⟨0, ⟨#[]⟩, (s.doA ⟨5, now, n, b, ⟨ts, tk, tu, to, ta, tb⟩, sd⟩).e⟩ M) := by
  have hz := cz_start h ⟨5, now, n, b, ⟨ts, tk, tu, to, ta, tb⟩, sd⟩
  unfold vopC vanC at hz
  simp only [noAns] at hz
  have HZ := Lib.hid hz
  clear hz h
  go_enter Try.func11, Try.ntmps11
  go_wp2_with fail
  generalize ((w.alloc (.cells #[.int .i64 5, .int .i64 now, .int .i64 n, .string b, .string ts, .int .i64 tk, .bool tu, .int .i64 to, .int .i64 ta, .int .i64 tb, .int .u64 sd] 33)).alloc (.cells #[.int .i64 0, .string ⟨#[]⟩, .int .i64 0] 35)).alloc (.cells #[.int .i64 0, .string ⟨#[]⟩, .int .i64 0] 35) = w1 at *
  refine (insert_v HZ.out.hd.1 now n b ⟨ts, tk, tu, to, ta, tb⟩ hts sd).mono ?_
  rintro e w2 ⟨rfl, hs⟩
  obtain ⟨U2, hz2⟩ := HZ.out.step hs
  have HZ2 := Lib.hid hz2
  clear hs hz2 HZ
  generalize (s.doA ⟨5, now, n, b, ⟨ts, tk, tu, to, ta, tb⟩, sd⟩).e = X at *
  have k3 := HZ2.out.b3
  have k5 := HZ2.out.b5
  have x0 := cell_of_row w2 _ 0 _ _ _ k5
  have x1 := cell_of_row w2 _ 1 _ _ _ k5
  have x2 := cell_of_row w2 _ 2 _ _ _ k5
  have f0 : w2.frozen? ⟨w.heap.size + 2, 0, none⟩ = false := gb.frozen_at k5
  have f1 : w2.frozen? ⟨w.heap.size + 2, 1, none⟩ = false := gb.frozen_at k5
  have f2 : w2.frozen? ⟨w.heap.size + 2, 2, none⟩ = false := gb.frozen_at k5
  have hlt := gb.blk_lt k5
  clear k3 k5
  go_upto_region 19 with fail
  have HZ3 := Lib.hid (HZ2.out.setE X)
  generalize w2.setCell ⟨w.heap.size + 2, 2, none⟩ (.int .i64 X) = w3 at *
  clear x0 x1 x2 f0 f1 f2 hlt HZ2
  have hk5 := HZ3.out.b5
  have hk4 := HZ3.out.b4
  have x0 := cell_of_row w3 _ 0 _ _ _ hk5
  have x1 := cell_of_row w3 _ 1 _ _ _ hk5
  have x2 := cell_of_row w3 _ 2 _ _ _ hk5
  have y0 := cell_of_row w3 _ 0 _ _ _ hk4
  have y1 := cell_of_row w3 _ 1 _ _ _ hk4
  have y2 := cell_of_row w3 _ 2 _ _ _ hk4
  have f0 : w3.frozen? ⟨w.heap.size + 1, 0, none⟩ = false := gb.frozen_at hk4
  have f1 : w3.frozen? ⟨w.heap.size + 1, 1, none⟩ = false := gb.frozen_at hk4
  have f2 : w3.frozen? ⟨w.heap.size + 1, 2, none⟩ = false := gb.frozen_at hk4
  simp only [noAns] at x0 x1 x2 y0 y1 y2
  have hf := HZ3.out.fin
  have hlt := gb.blk_lt hk4
  have hlt2 := gb.blk_lt hk5
  have HF := Lib.hid hf
  clear hk4 hk5 hf
  go_wp2_with fail
  generalize hW : vset3 w3 (w.heap.size + 1) (.int .i64 0) (.string ⟨#[]⟩) (.int .i64 X) = W at *
  unfold vset3 at hW
  rw [hW]
  clear hW x0 x1 x2 y0 y1 y2 f0 f1 f2
  obtain ⟨hdd, hzz⟩ := HF.out
  have z0 := cell_of_row W _ 0 _ _ _ hzz
  have z1 := cell_of_row W _ 1 _ _ _ hzz
  have z2 := cell_of_row W _ 2 _ _ _ hzz
  exact bodyPost_ret (v := .agg #[.int .i64 0, .string ⟨#[]⟩, .int .i64 X]) (by simp [results, Try.results11, go_sem, z0, z1, z2]) rfl ⟨rfl, hdd⟩
set_option maxRecDepth 100000 in
set_option maxHeartbeats 8000000 in
theorem vdoes6 (h : CHd w0 w U g s M) (now n : Int) (b ts : ByteArray) (tk : Int) (tu : Bool) (to ta tb sd : Int) :
    Calls Try.prog 11 #[ptr g, .agg #[.int .i64 6, .int .i64 now, .int .i64 n, .string b, .string ts, .int .i64 tk, .bool tu, .int .i64 to, .int .i64 ta, .int .i64 tb, .int .u64 sd]] w (CDoe w0 w U g (s.doN ⟨6, now, n, b, ⟨ts, tk, tu, to, ta, tb⟩, sd⟩) ⟨0, ⟨#[]⟩, (s.doA ⟨6, now, n, b, ⟨ts, tk, tu, to, ta, tb⟩, sd⟩).e⟩ M) := by
  have hz := cz_start h ⟨6, now, n, b, ⟨ts, tk, tu, to, ta, tb⟩, sd⟩
  unfold vopC vanC at hz
  simp only [noAns] at hz
  have HZ := Lib.hid hz
  clear hz h
  go_enter Try.func11, Try.ntmps11
  go_wp2_with fail
  generalize ((w.alloc (.cells #[.int .i64 6, .int .i64 now, .int .i64 n, .string b, .string ts, .int .i64 tk, .bool tu, .int .i64 to, .int .i64 ta, .int .i64 tb, .int .u64 sd] 33)).alloc (.cells #[.int .i64 0, .string ⟨#[]⟩, .int .i64 0] 35)).alloc (.cells #[.int .i64 0, .string ⟨#[]⟩, .int .i64 0] 35) = w1 at *
  refine (remove_v HZ.out.hd.1 now n b ⟨ts, tk, tu, to, ta, tb⟩ sd).mono ?_
  rintro e w2 ⟨rfl, hs⟩
  obtain ⟨U2, hz2⟩ := HZ.out.step hs
  have HZ2 := Lib.hid hz2
  clear hs hz2 HZ
  generalize (s.doA ⟨6, now, n, b, ⟨ts, tk, tu, to, ta, tb⟩, sd⟩).e = X at *
  have k3 := HZ2.out.b3
  have k5 := HZ2.out.b5
  have x0 := cell_of_row w2 _ 0 _ _ _ k5
  have x1 := cell_of_row w2 _ 1 _ _ _ k5
  have x2 := cell_of_row w2 _ 2 _ _ _ k5
  have f0 : w2.frozen? ⟨w.heap.size + 2, 0, none⟩ = false := gb.frozen_at k5
  have f1 : w2.frozen? ⟨w.heap.size + 2, 1, none⟩ = false := gb.frozen_at k5
  have f2 : w2.frozen? ⟨w.heap.size + 2, 2, none⟩ = false := gb.frozen_at k5
  have hlt := gb.blk_lt k5
  clear k3 k5
  go_upto_region 19 with fail
  have HZ3 := Lib.hid (HZ2.out.setE X)
  generalize w2.setCell ⟨w.heap.size + 2, 2, none⟩ (.int .i64 X) = w3 at *
  clear x0 x1 x2 f0 f1 f2 hlt HZ2
  have hk5 := HZ3.out.b5
  have hk4 := HZ3.out.b4
  have x0 := cell_of_row w3 _ 0 _ _ _ hk5
  have x1 := cell_of_row w3 _ 1 _ _ _ hk5
  have x2 := cell_of_row w3 _ 2 _ _ _ hk5
  have y0 := cell_of_row w3 _ 0 _ _ _ hk4
  have y1 := cell_of_row w3 _ 1 _ _ _ hk4
  have y2 := cell_of_row w3 _ 2 _ _ _ hk4
  have f0 : w3.frozen? ⟨w.heap.size + 1, 0, none⟩ = false := gb.frozen_at hk4
  have f1 : w3.frozen? ⟨w.heap.size + 1, 1, none⟩ = false := gb.frozen_at hk4
  have f2 : w3.frozen? ⟨w.heap.size + 1, 2, none⟩ = false := gb.frozen_at hk4
  simp only [noAns] at x0 x1 x2 y0 y1 y2
  have hf := HZ3.out.fin
  have hlt := gb.blk_lt hk4
  have hlt2 := gb.blk_lt hk5
  have HF := Lib.hid hf
  clear hk4 hk5 hf
  go_wp2_with fail
  generalize hW : vset3 w3 (w.heap.size + 1) (.int .i64 0) (.string ⟨#[]⟩) (.int .i64 X) = W at *
  unfold vset3 at hW
  rw [hW]
  clear hW x0 x1 x2 y0 y1 y2 f0 f1 f2
  obtain ⟨hdd, hzz⟩ := HF.out
  have z0 := cell_of_row W _ 0 _ _ _ hzz
  have z1 := cell_of_row W _ 1 _ _ _ hzz
  have z2 := cell_of_row W _ 2 _ _ _ hzz
  exact bodyPost_ret (v := .agg #[.int .i64 0, .string ⟨#[]⟩, .int .i64 X]) (by simp [results, Try.results11, go_sem, z0, z1, z2]) rfl ⟨rfl, hdd⟩
set_option maxRecDepth 100000 in
set_option maxHeartbeats 8000000 in
theorem vdoes7 (h : CHd w0 w U g s M) (now n : Int) (b ts : ByteArray) (tk : Int) (tu : Bool) (to ta tb sd : Int) (hts : ts.size ≤ maxLen) :
    Calls Try.prog 11 #[ptr g, .agg #[.int .i64 7, .int .i64 now, .int .i64 n, .string b, .string ts, .int .i64 tk, .bool tu, .int .i64 to, .int .i64 ta, .int .i64 tb, .int .u64 sd]] w (CDoe w0 w U g (s.doN ⟨7, now, n, b, ⟨ts, tk, tu, to, ta, tb⟩, sd⟩) ⟨0, ⟨#[]⟩, (s.doA ⟨7, now, n, b, ⟨ts, tk, tu, to, ta, tb⟩, sd⟩).e⟩ M) := by
  have hz := cz_start h ⟨7, now, n, b, ⟨ts, tk, tu, to, ta, tb⟩, sd⟩
  unfold vopC vanC at hz
  simp only [noAns] at hz
  have HZ := Lib.hid hz
  clear hz h
  go_enter Try.func11, Try.ntmps11
  go_wp2_with fail
  generalize ((w.alloc (.cells #[.int .i64 7, .int .i64 now, .int .i64 n, .string b, .string ts, .int .i64 tk, .bool tu, .int .i64 to, .int .i64 ta, .int .i64 tb, .int .u64 sd] 33)).alloc (.cells #[.int .i64 0, .string ⟨#[]⟩, .int .i64 0] 35)).alloc (.cells #[.int .i64 0, .string ⟨#[]⟩, .int .i64 0] 35) = w1 at *
  refine (update_v HZ.out.hd.1 now n b ⟨ts, tk, tu, to, ta, tb⟩ hts sd).mono ?_
  rintro e w2 ⟨rfl, hs⟩
  obtain ⟨U2, hz2⟩ := HZ.out.step hs
  have HZ2 := Lib.hid hz2
  clear hs hz2 HZ
  generalize (s.doA ⟨7, now, n, b, ⟨ts, tk, tu, to, ta, tb⟩, sd⟩).e = X at *
  have k3 := HZ2.out.b3
  have k5 := HZ2.out.b5
  have x0 := cell_of_row w2 _ 0 _ _ _ k5
  have x1 := cell_of_row w2 _ 1 _ _ _ k5
  have x2 := cell_of_row w2 _ 2 _ _ _ k5
  have f0 : w2.frozen? ⟨w.heap.size + 2, 0, none⟩ = false := gb.frozen_at k5
  have f1 : w2.frozen? ⟨w.heap.size + 2, 1, none⟩ = false := gb.frozen_at k5
  have f2 : w2.frozen? ⟨w.heap.size + 2, 2, none⟩ = false := gb.frozen_at k5
  have hlt := gb.blk_lt k5
  clear k3 k5
  go_upto_region 19 with fail
  have HZ3 := Lib.hid (HZ2.out.setE X)
  generalize w2.setCell ⟨w.heap.size + 2, 2, none⟩ (.int .i64 X) = w3 at *
  clear x0 x1 x2 f0 f1 f2 hlt HZ2
  have hk5 := HZ3.out.b5
  have hk4 := HZ3.out.b4
  have x0 := cell_of_row w3 _ 0 _ _ _ hk5
  have x1 := cell_of_row w3 _ 1 _ _ _ hk5
  have x2 := cell_of_row w3 _ 2 _ _ _ hk5
  have y0 := cell_of_row w3 _ 0 _ _ _ hk4
  have y1 := cell_of_row w3 _ 1 _ _ _ hk4
  have y2 := cell_of_row w3 _ 2 _ _ _ hk4
  have f0 : w3.frozen? ⟨w.heap.size + 1, 0, none⟩ = false := gb.frozen_at hk4
  have f1 : w3.frozen? ⟨w.heap.size + 1, 1, none⟩ = false := gb.frozen_at hk4
  have f2 : w3.frozen? ⟨w.heap.size + 1, 2, none⟩ = false := gb.frozen_at hk4
  simp only [noAns] at x0 x1 x2 y0 y1 y2
  have hf := HZ3.out.fin
  have hlt := gb.blk_lt hk4
  have hlt2 := gb.blk_lt hk5
  have HF := Lib.hid hf
  clear hk4 hk5 hf
  go_wp2_with fail
  generalize hW : vset3 w3 (w.heap.size + 1) (.int .i64 0) (.string ⟨#[]⟩) (.int .i64 X) = W at *
  unfold vset3 at hW
  rw [hW]
  clear hW x0 x1 x2 y0 y1 y2 f0 f1 f2
  obtain ⟨hdd, hzz⟩ := HF.out
  have z0 := cell_of_row W _ 0 _ _ _ hzz
  have z1 := cell_of_row W _ 1 _ _ _ hzz
  have z2 := cell_of_row W _ 2 _ _ _ hzz
  exact bodyPost_ret (v := .agg #[.int .i64 0, .string ⟨#[]⟩, .int .i64 X]) (by simp [results, Try.results11, go_sem, z0, z1, z2]) rfl ⟨rfl, hdd⟩
set_option maxRecDepth 100000 in
set_option maxHeartbeats 8000000 in
theorem vdoes8 (kd : Int) (h : CHd w0 w U g s M) (now n : Int) (b ts : ByteArray) (tk : Int) (tu : Bool) (to ta tb sd : Int) (hk : ¬ (0 ≤ kd ∧ kd ≤ 7)) :
    Calls Try.prog 11 #[ptr g, .agg #[.int .i64 kd, .int .i64 now, .int .i64 n, .string b, .string ts, .int .i64 tk, .bool tu, .int .i64 to, .int .i64 ta, .int .i64 tb, .int .u64 sd]] w (CDoe w0 w U g s noAns M) := by
  have hz := cz_start h ⟨kd, now, n, b, ⟨ts, tk, tu, to, ta, tb⟩, sd⟩
  unfold vopC vanC at hz
  simp only [noAns] at hz
  have HZ := Lib.hid hz
  clear hz h
  have d0 : (kd == 0) = false := by simp; omega
  have d1 : (kd == 1) = false := by simp; omega
  have d2 : (kd == 2) = false := by simp; omega
  have d3 : (kd == 3) = false := by simp; omega
  have d4 : (kd == 4) = false := by simp; omega
  have d5 : (kd == 5) = false := by simp; omega
  have d6 : (kd == 6) = false := by simp; omega
  have d7 : (kd == 7) = false := by simp; omega
  clear hk
  go_enter Try.func11, Try.ntmps11
  go_upto_region 19 with fail
  have HZ3 := HZ
  generalize ((w.alloc (.cells #[.int .i64 kd, .int .i64 now, .int .i64 n, .string b, .string ts, .int .i64 tk, .bool tu, .int .i64 to, .int .i64 ta, .int .i64 tb, .int .u64 sd] 33)).alloc (.cells #[.int .i64 0, .string ⟨#[]⟩, .int .i64 0] 35)).alloc (.cells #[.int .i64 0, .string ⟨#[]⟩, .int .i64 0] 35) = w2 at *
  clear HZ
  have hk5 := HZ3.out.b5
  have hk4 := HZ3.out.b4
  have x0 := cell_of_row w2 _ 0 _ _ _ hk5
  have x1 := cell_of_row w2 _ 1 _ _ _ hk5
  have x2 := cell_of_row w2 _ 2 _ _ _ hk5
  have y0 := cell_of_row w2 _ 0 _ _ _ hk4
  have y1 := cell_of_row w2 _ 1 _ _ _ hk4
  have y2 := cell_of_row w2 _ 2 _ _ _ hk4
  have f0 : w2.frozen? ⟨w.heap.size + 1, 0, none⟩ = false := gb.frozen_at hk4
  have f1 : w2.frozen? ⟨w.heap.size + 1, 1, none⟩ = false := gb.frozen_at hk4
  have f2 : w2.frozen? ⟨w.heap.size + 1, 2, none⟩ = false := gb.frozen_at hk4
  simp only [noAns] at x0 x1 x2 y0 y1 y2
  have hf := HZ3.out.fin
  have hlt := gb.blk_lt hk4
  have hlt2 := gb.blk_lt hk5
  have HF := Lib.hid hf
  clear hk4 hk5 hf
  go_wp2_with fail
  generalize hW : vset3 w2 (w.heap.size + 1) (.int .i64 0) (.string ⟨#[]⟩) (.int .i64 0) = W at *
  unfold vset3 at hW
  rw [hW]
  clear hW x0 x1 x2 y0 y1 y2 f0 f1 f2
  obtain ⟨hdd, hzz⟩ := HF.out
  have z0 := cell_of_row W _ 0 _ _ _ hzz
  have z1 := cell_of_row W _ 1 _ _ _ hzz
  have z2 := cell_of_row W _ 2 _ _ _ hzz
  exact bodyPost_ret (v := .agg #[.int .i64 0, .string ⟨#[]⟩, .int .i64 0]) (by simp [results, Try.results11, go_sem, z0, z1, z2]) rfl ⟨rfl, hdd⟩
theorem vdoes_any (h : CHd w0 w U g s M) (o : COp) (ht : o.t.s.size ≤ maxLen) (hM : M + (o.s.size + o.t.s.size) ≤ M') (hf : M' ≤ 400000) :
    Calls Try.prog 11 #[ptr g, vopV o] w (CDoe w0 w U g (s.doN o) (s.doA o) M') := by
  have up : ∀ {s' : Ch} {a a' : Ans} {M2 : Nat} {e : Ending} {W : World}, M2 ≤ M' → a' = a → CDoe w0 w U g s' a' M2 e W → CDoe w0 w U g s' a M' e W := fun hm ha hd => by
    obtain ⟨he, U', h1, h2⟩ := hd
    subst ha
    exact ⟨he, U', h1.mono hm hf, h2⟩
  obtain ⟨kd, now, n, b, ⟨ts, tk, tu, to, ta, tb⟩, sd⟩ := o
  unfold vopV
  dsimp only at ht hM ⊢
  by_cases hk : 0 ≤ kd ∧ kd ≤ 7
  · have hc : kd = 0 ∨ kd = 1 ∨ kd = 2 ∨ kd = 3 ∨ kd = 4 ∨ kd = 5 ∨ kd = 6 ∨ kd = 7 := by omega
    rcases hc with rfl | rfl | rfl | rfl | rfl | rfl | rfl | rfl
    · exact (vdoes0 h now n b ts tk tu to ta tb sd (M' := M') (by omega) hf).mono fun _ _ hd => up (Nat.le_refl _) (Ch.ans_n (Or.inl rfl)) hd
    · exact (vdoes1 h now n b ts tk tu to ta tb sd).mono fun _ _ hd => up (by omega) rfl hd
    · exact (vdoes2 h now n b ts tk tu to ta tb sd).mono fun _ _ hd => up (by omega) rfl hd
    · exact (vdoes3 h now n b ts tk tu to ta tb sd).mono fun _ _ hd => up (by omega) rfl hd
    · exact (vdoes4 h now n b ts tk tu to ta tb sd).mono fun _ _ hd => up (by omega) (Ch.ans_s rfl) hd
    · exact (vdoes5 h now n b ts tk tu to ta tb sd ht).mono fun _ _ hd => up (by omega) rfl hd
    · exact (vdoes6 h now n b ts tk tu to ta tb sd).mono fun _ _ hd => up (by omega) (Ch.ans_e (Or.inl rfl)) hd
    · exact (vdoes7 h now n b ts tk tu to ta tb sd ht).mono fun _ _ hd => up (by omega) (Ch.ans_e (Or.inr rfl)) hd
  · have e := Ch.do_other (c := s) (o := ⟨kd, now, n, b, ⟨ts, tk, tu, to, ta, tb⟩, sd⟩) hk
    rw [e.1, e.2]
    exact (vdoes8 kd h now n b ts tk tu to ta tb sd hk).mono fun _ _ hd => up (by omega) rfl hd
end
end Go.Proofs.Ytfdfgnmgpgkknaa

/-
  Contract: what a call of the statements does to a link. Conditions: as each states.
  What the laws over scripts of calls have in common. Conditions: as each states.
-/
import Derived.Test.YtoiodcaohkfdjaaGreatMP47
import Derived.Test.YtoiodcaohkfdjaaGreatMP17
import Derived.Deep.Cut
import Derived.Deep.CutBlock
import Derived.Test.YtoiodcaohkfdjaaGreatMP48
namespace Go.Proofs.YtoiodcaohkfdjaaGreat
open Go.RowKit
def lopV (o : LOp) : Value := .agg #[.int .i64 o.kind, .int .i64 o.now, .int .i64 o.n, .string o.s, .string o.t.s, .int .i64 o.t.k, .bool o.t.up, .int .i64 o.t.o, .int .i64 o.t.a, .int .i64 o.t.b]
def lopC (o : LOp) : Obj := .cells #[.int .i64 o.kind, .int .i64 o.now, .int .i64 o.n, .string o.s, .string o.t.s, .int .i64 o.t.k, .bool o.t.up, .int .i64 o.t.o, .int .i64 o.t.a, .int .i64 o.t.b] 45
def lanC (a : Ans) : Obj := .cells #[.int .i64 a.n, .string a.s, .int .i64 a.e] 47
def lset3 (w : World) (g : Nat) (a b c : Value) : World := ((w.setCell ⟨g, 0, none⟩ a).setCell ⟨g, 1, none⟩ b).setCell ⟨g, 2, none⟩ c
/-- Inside of does: the stage, the call's own three blocks. -/
structure LZ (w0 w : World) (U : Own) (g : Nat) (s : Lk) (M : Nat) (o : LOp) (a : Ans) (W : World) (U' : Own) : Prop where
  hd : LHd w0 W U' g s M
  rest : Rest w U W U'
  up : w0.heap.size ≤ w.heap.size
  b3 : W.heap[w.heap.size]? = some (lopC o)
  b4 : W.heap[w.heap.size + 1]? = some (lanC noAns)
  b5 : W.heap[w.heap.size + 2]? = some (lanC a)
  n3 : ¬ U' w.heap.size
  n4 : ¬ U' (w.heap.size + 1)
  n5 : ¬ U' (w.heap.size + 2)
theorem lthree (w : World) (o0 o1 o2 : Obj) : (((w.alloc o0).alloc o1).alloc o2).heap[w.heap.size]? = some o0 ∧ (((w.alloc o0).alloc o1).alloc o2).heap[w.heap.size + 1]? = some o1 ∧ (((w.alloc o0).alloc o1).alloc o2).heap[w.heap.size + 2]? = some o2 := by
  have s1 : (w.alloc o0).heap.size = w.heap.size + 1 := by simp
  have s2 : ((w.alloc o0).alloc o1).heap.size = w.heap.size + 2 := by simp
  have b1 : Below (w.alloc o0).heap.size (w.alloc o0) ((w.alloc o0).alloc o1) := (Below.refl _ _).alloc (Nat.le_refl _) _
  have b2 : Below ((w.alloc o0).alloc o1).heap.size ((w.alloc o0).alloc o1) (((w.alloc o0).alloc o1).alloc o2) := (Below.refl _ _).alloc (Nat.le_refl _) _
  have h0 := heap_alloc_new w o0
  have h1 := heap_alloc_new (w.alloc o0) o1
  have h2 := heap_alloc_new ((w.alloc o0).alloc o1) o2
  rw [s1] at h1
  rw [s2] at h2
  exact ⟨(b2.block _ (by omega)).trans ((b1.block _ (by omega)).trans h0), (b2.block _ (by omega)).trans h1, h2⟩
section
variable {w0 w W W' : World} {U U1 U' : Own} {g : Nat} {s s' : Lk} {M M' : Nat} {o : LOp} {a : Ans}
theorem lz_start (h : LHd w0 w U g s M) (o : LOp) : LZ w0 w U g s M o noAns (((w.alloc (lopC o)).alloc (lanC noAns)).alloc (lanC noAns)) U := by
  have hb : Below w.heap.size w (((w.alloc (lopC o)).alloc (lanC noAns)).alloc (lanC noAns)) := (((Below.refl _ _).alloc (Nat.le_refl _) _).alloc (by simp) _).alloc (by simp; omega) _
  obtain ⟨h3, h4, h5⟩ := lthree w (lopC o) (lanC noAns) (lanC noAns)
  exact ⟨h.on hb, fun i hi hu => ⟨hb.block i hi, hu⟩, h.2.2.size, h3, h4, h5, h.new (Nat.le_refl _), h.new (by omega), h.new (by omega)⟩
theorem LZ.on (h : LZ w0 w U g s M o a W U') (hb : Below W.heap.size W W') : LZ w0 w U g s M o a W' U' :=
  ⟨h.hd.on hb, fun i hi hu => by
    have hh := h.rest i hi hu
    exact ⟨(hb.block i (Nat.lt_of_lt_of_le hi (Nat.le_trans (Nat.le_of_lt (gb.blk_lt h.b3)) (Nat.le_refl _)))).trans hh.1, hh.2⟩, h.up, (hb.block _ (gb.blk_lt h.b3)).trans h.b3, (hb.block _ (gb.blk_lt h.b4)).trans h.b4, (hb.block _ (gb.blk_lt h.b5)).trans h.b5, h.n3, h.n4, h.n5⟩
theorem LZ.step (h : LZ w0 w U g s M o a W U1) (hs : LStp W U1 g s' M' W') : ∃ U', LZ w0 w U g s' M' o a W' U' := by
  obtain ⟨U', hd, hr⟩ := h.hd.step hs
  have r3 := hr _ (gb.blk_lt h.b3) h.n3
  have r4 := hr _ (gb.blk_lt h.b4) h.n4
  have r5 := hr _ (gb.blk_lt h.b5) h.n5
  refine ⟨U', hd, fun i hi hu => ?_, h.up, r3.1.trans h.b3, r4.1.trans h.b4, r5.1.trans h.b5, r3.2, r4.2, r5.2⟩
  have h1 := h.rest i hi hu
  have h2 := hr i (Nat.lt_trans hi (gb.blk_lt h.b3)) h1.2
  exact ⟨h2.1.trans h1.1, h2.2⟩
/-- A store into the answer. -/
theorem LZ.set (h : LZ w0 w U g s M o a W U') {k : Nat} {v : Value} {a' : Ans} (ha : (W.setCell ⟨w.heap.size + 2, k, none⟩ v).heap[w.heap.size + 2]? = some (lanC a')) : LZ w0 w U g s M o a' (W.setCell ⟨w.heap.size + 2, k, none⟩ v) U' :=
  ⟨h.hd.set h.n5 (by have := h.up; omega) v, fun i hi hu => by
    have hh := h.rest i hi hu
    exact ⟨(Below.heap_setCell _ _ _ _ (show i ≠ w.heap.size + 2 by omega)).trans hh.1, hh.2⟩, h.up, (Below.heap_setCell _ _ _ _ (show w.heap.size ≠ w.heap.size + 2 by omega)).trans h.b3, (Below.heap_setCell _ _ _ _ (show w.heap.size + 1 ≠ w.heap.size + 2 by omega)).trans h.b4, ha, h.n3, h.n4, h.n5⟩
theorem LZ.setN (h : LZ w0 w U g s M o a W U') (x : Int) : LZ w0 w U g s M o ⟨x, a.s, a.e⟩ (W.setCell ⟨w.heap.size + 2, 0, none⟩ (.int .i64 x)) U' := h.set (by rw [gb.set_heap h.b5]; rfl)
theorem LZ.setS (h : LZ w0 w U g s M o a W U') (x : ByteArray) : LZ w0 w U g s M o ⟨a.n, x, a.e⟩ (W.setCell ⟨w.heap.size + 2, 1, none⟩ (.string x)) U' := h.set (by rw [gb.set_heap h.b5]; rfl)
theorem LZ.setE (h : LZ w0 w U g s M o a W U') (x : Int) : LZ w0 w U g s M o ⟨a.n, a.s, x⟩ (W.setCell ⟨w.heap.size + 2, 2, none⟩ (.int .i64 x)) U' := h.set (by rw [gb.set_heap h.b5]; rfl)
/-- What does hands back. -/
def LDoe (w0 w : World) (U : Own) (g : Nat) (s : Lk) (a : Ans) (M : Nat) (e : Ending) (W : World) : Prop := e = .returned (.agg #[.int .i64 a.n, .string a.s, .int .i64 a.e]) ∧ ∃ U', LHd w0 W U' g s M ∧ Rest w U W U'
theorem LZ.fin (h : LZ w0 w U g s M o a W U') : (∃ U'', LHd w0 (lset3 W (w.heap.size + 1) (.int .i64 a.n) (.string a.s) (.int .i64 a.e)) U'' g s M ∧ Rest w U (lset3 W (w.heap.size + 1) (.int .i64 a.n) (.string a.s) (.int .i64 a.e)) U'') ∧
    (lset3 W (w.heap.size + 1) (.int .i64 a.n) (.string a.s) (.int .i64 a.e)).heap[w.heap.size + 1]? = some (lanC a) := by
  have hu := h.up
  have h1 := h.hd.set (i := 0) h.n4 (by omega) (.int .i64 a.n)
  have h2 := h1.set (i := 1) h.n4 (by omega) (.string a.s)
  have h3 := h2.set (i := 2) h.n4 (by omega) (.int .i64 a.e)
  refine ⟨⟨U', h3, fun i hi hx => ?_⟩, ?_⟩
  · have hh := h.rest i hi hx
    refine ⟨?_, hh.2⟩
    unfold lset3
    rw [Below.heap_setCell _ _ _ _ (show i ≠ w.heap.size + 1 by omega), Below.heap_setCell _ _ _ _ (show i ≠ w.heap.size + 1 by omega), Below.heap_setCell _ _ _ _ (show i ≠ w.heap.size + 1 by omega)]
    exact hh.1
  · unfold lset3
    rw [gb.set_heap (gb.set_heap (gb.set_heap h.b4 _) _) _]
    rfl
end
section
variable {w0 w : World} {U : Own} {g : Nat} {s : Lk} {M M' : Nat}
theorem LZ.mono {w0 w W : World} {U U' : Own} {g : Nat} {s : Lk} {M M' : Nat} {o : LOp} {a : Ans} (h : LZ w0 w U g s M o a W U') (hM : M ≤ M') (hf : M' ≤ 400000) : LZ w0 w U g s M' o a W U' := ⟨h.hd.mono hM hf, h.rest, h.up, h.b3, h.b4, h.b5, h.n3, h.n4, h.n5⟩
set_option maxRecDepth 100000 in
set_option maxHeartbeats 8000000 in
theorem ldoes (h : LHd w0 w U g s M) (o : LOp) (ht : o.t.s.size ≤ maxLen) (hM : M + (o.s.size + o.t.s.size) ≤ M') (hf : M' ≤ 400000) :
    Calls Tryz.prog 15 #[ptr g, lopV o] w (LDoe w0 w U g (s.doK o) (s.ansK o) M') := by
  have hz := lz_start h o
  obtain ⟨kd, now, n, b, ⟨ts, tk, tu, t2, ta, tb⟩⟩ := o
  obtain ⟨s9, hs9⟩ : ∃ s9, s.doK ⟨kd, now, n, b, ⟨ts, tk, tu, t2, ta, tb⟩⟩ = s9 := ⟨_, rfl⟩
  obtain ⟨a9, ha9⟩ : ∃ a9, s.ansK ⟨kd, now, n, b, ⟨ts, tk, tu, t2, ta, tb⟩⟩ = a9 := ⟨_, rfl⟩
  rw [hs9, ha9]
  have HZ := Lib.hid hz
  unfold lopC lanC at hz
  simp only [noAns] at hz
  unfold lopV
  dsimp only at ht hM ⊢
  obtain ⟨w1, hw1⟩ : ∃ w1, ((w.alloc (lopC ⟨kd, now, n, b, ⟨ts, tk, tu, t2, ta, tb⟩⟩)).alloc (lanC noAns)).alloc (lanC noAns) = w1 := ⟨_, rfl⟩
  rw [hw1] at HZ
  have HCV := Lib.hid (fun (hbs : b.size ≤ 400000) => gc.conv_text b (by omega) w1)
  have hsz : w1.heap.size = w.heap.size + 3 := by rw [← hw1]; simp
  unfold lopC lanC at hw1
  simp only [noAns] at hw1
  have HW1 := Lib.hid hw1
  clear hz h hw1
  go_enter Tryz.func15, Tryz.ntmps15
  go_upto_block 0 with fail
  go_cut [] from 6 (fun wc => ∃ U', LZ w0 w U g s9 M' ⟨kd, now, n, b, ⟨ts, tk, tu, t2, ta, tb⟩⟩ a9 wc U')
  case first =>
    rw [HW1.out]
    clear HW1
    have k3 := HZ.out.b3
    have q0 := cell_of_row w1 _ 0 _ _ _ k3
    have q1 := cell_of_row w1 _ 1 _ _ _ k3
    have q2 := cell_of_row w1 _ 2 _ _ _ k3
    have q3 := cell_of_row w1 _ 3 _ _ _ k3
    have q4 := cell_of_row w1 _ 4 _ _ _ k3
    have q5 := cell_of_row w1 _ 5 _ _ _ k3
    have q6 := cell_of_row w1 _ 6 _ _ _ k3
    have q7 := cell_of_row w1 _ 7 _ _ _ k3
    have q8 := cell_of_row w1 _ 8 _ _ _ k3
    have q9 := cell_of_row w1 _ 9 _ _ _ k3
    simp only at q0 q1 q2 q3 q4 q5 q6 q7 q8 q9
    clear k3
    by_cases hk : 0 ≤ kd ∧ kd ≤ 6
    · have hc : kd = 0 ∨ kd = 1 ∨ kd = 2 ∨ kd = 3 ∨ kd = 4 ∨ kd = 5 ∨ kd = 6 := by omega
      rcases hc with rfl | rfl | rfl | rfl | rfl | rfl | rfl
      · obtain ⟨c, wB, hcv, hbi, hb1, _, _, hnc⟩ := HCV.out (by omega)
        have HZ := Lib.hid (HZ.out.on hb1)
        rw [hsz] at hcv hbi
        have HD := Lib.hid (lsend HZ.out.hd.1 now rfl hbi (by omega) (M' := M') (by omega) hf)
        clear hb1 HCV
        go_wp2_with fail
        refine HD.out.mono ?_
        rintro e w2 ⟨rfl, hs⟩
        subst hs9
        subst ha9
        obtain ⟨U2, hz2⟩ := HZ.out.step hs
        have HZ2 := Lib.hid hz2
        clear hs hz2 HZ q0 q1 q2 q3 q4 q5 q6 q7 q8 q9 hcv hbi HD
        have x0 := cell_of_row w2 _ 0 _ _ _ HZ2.out.b5
        have f0 : w2.frozen? ⟨w.heap.size + 2, 0, none⟩ = false := gb.frozen_at HZ2.out.b5
        have hlt := gb.blk_lt HZ2.out.b5
        go_wp2_with fail
        go_meet
        exact ⟨U2, HZ2.out.setN _⟩
      · go_wp2_with fail
        refine (lfin HZ.out.hd.1 now).mono ?_
        rintro e w2 ⟨rfl, hs⟩
        subst hs9
        subst ha9
        obtain ⟨U2, hz2⟩ := HZ.out.step hs
        have HZ2 := Lib.hid (hz2.mono (M' := M') (by omega) hf)
        clear hs hz2 HZ HCV q0 q1 q2 q3 q4 q5 q6 q7 q8 q9
        have hlt := gb.blk_lt HZ2.out.b5
        go_wp2_with fail
        go_meet
        exact ⟨U2, HZ2.out⟩
      · go_wp2_with fail
        refine (lcut HZ.out.hd.1 now).mono ?_
        rintro e w2 ⟨rfl, hs⟩
        subst hs9
        subst ha9
        obtain ⟨U2, hz2⟩ := HZ.out.step hs
        have HZ2 := Lib.hid (hz2.mono (M' := M') (by omega) hf)
        clear hs hz2 HZ HCV q0 q1 q2 q3 q4 q5 q6 q7 q8 q9
        have hlt := gb.blk_lt HZ2.out.b5
        go_wp2_with fail
        go_meet
        exact ⟨U2, HZ2.out⟩
      · go_wp2_with fail
        refine (lstep HZ.out.hd.1 now n).mono ?_
        rintro e w2 ⟨q, d, rfl, hi, _, _, hs⟩
        have hs := hs.stp
        have cv := gc.got_text (d := d) hi rfl
        subst hs9
        subst ha9
        obtain ⟨U2, hz2⟩ := HZ.out.step hs
        have HZ2 := Lib.hid (hz2.mono (M' := M') (by omega) hf)
        clear hs hz2 HZ HCV q0 q1 q2 q3 q4 q5 q6 q7 q8 q9 hi
        have x0 := cell_of_row w2 _ 0 _ _ _ HZ2.out.b5
        have f0 : w2.frozen? ⟨w.heap.size + 2, 0, none⟩ = false := gb.frozen_at HZ2.out.b5
        have x1 := cell_of_row w2 _ 1 _ _ _ HZ2.out.b5
        have f1 : w2.frozen? ⟨w.heap.size + 2, 1, none⟩ = false := gb.frozen_at HZ2.out.b5
        have hlt := gb.blk_lt HZ2.out.b5
        go_wp2_with fail
        go_meet
        exact ⟨U2, (HZ2.out.setS _).setN _⟩
      · have HD := Lib.hid (ladd HZ.out.hd.1 (t := ⟨ts, tk, tu, t2, ta, tb⟩) ht now (M' := M') (by show M + ts.size ≤ M'; omega) hf)
        unfold Tox.v at HD
        go_wp2_with fail
        refine HD.out.mono ?_
        rintro e w2 ⟨rfl, hs⟩
        subst hs9
        subst ha9
        obtain ⟨U2, hz2⟩ := HZ.out.step hs
        have HZ2 := Lib.hid hz2
        clear hs hz2 HZ HCV q0 q1 q2 q3 q4 q5 q6 q7 q8 q9 HD
        have x2 := cell_of_row w2 _ 2 _ _ _ HZ2.out.b5
        have f2 : w2.frozen? ⟨w.heap.size + 2, 2, none⟩ = false := gb.frozen_at HZ2.out.b5
        have hlt := gb.blk_lt HZ2.out.b5
        go_wp2_with fail
        go_meet
        exact ⟨U2, HZ2.out.setE _⟩
      · have HD := Lib.hid (ldrop HZ.out.hd.1 b now)
        go_wp2_with fail
        refine HD.out.mono ?_
        rintro e w2 ⟨rfl, hs⟩
        subst hs9
        subst ha9
        obtain ⟨U2, hz2⟩ := HZ.out.step hs
        have HZ2 := Lib.hid (hz2.mono (M' := M') (by omega) hf)
        clear hs hz2 HZ HCV q0 q1 q2 q3 q4 q5 q6 q7 q8 q9 HD
        have x2 := cell_of_row w2 _ 2 _ _ _ HZ2.out.b5
        have f2 : w2.frozen? ⟨w.heap.size + 2, 2, none⟩ = false := gb.frozen_at HZ2.out.b5
        have hlt := gb.blk_lt HZ2.out.b5
        go_wp2_with fail
        go_meet
        exact ⟨U2, HZ2.out.setE _⟩
      · have HD := Lib.hid (lchg HZ.out.hd.1 (t := ⟨ts, tk, tu, t2, ta, tb⟩) ht now)
        unfold Tox.v at HD
        go_wp2_with fail
        refine HD.out.mono ?_
        rintro e w2 ⟨rfl, hs⟩
        subst hs9
        subst ha9
        obtain ⟨U2, hz2⟩ := HZ.out.step hs
        have HZ2 := Lib.hid (hz2.mono (M' := M') (by omega) hf)
        clear hs hz2 HZ HCV q0 q1 q2 q3 q4 q5 q6 q7 q8 q9 HD
        have x2 := cell_of_row w2 _ 2 _ _ _ HZ2.out.b5
        have f2 : w2.frozen? ⟨w.heap.size + 2, 2, none⟩ = false := gb.frozen_at HZ2.out.b5
        have hlt := gb.blk_lt HZ2.out.b5
        go_wp2_with fail
        go_meet
        exact ⟨U2, HZ2.out.setE _⟩
    · have e1 : s9 = s ∧ a9 = noAns := by
        rw [← hs9, ← ha9]
        unfold Lk.doK Lk.ansK
        have h0 : ∀ k : Int, 0 ≤ k → k ≤ 6 → ¬ kd = k := fun k h1 h2 e => hk (by omega)
        simp only [if_neg (h0 0 (by decide) (by decide)), if_neg (h0 1 (by decide) (by decide)), if_neg (h0 2 (by decide) (by decide)), if_neg (h0 3 (by decide) (by decide)), if_neg (h0 4 (by decide) (by decide)), if_neg (h0 5 (by decide) (by decide)), if_neg (h0 6 (by decide) (by decide))]
        exact ⟨trivial, trivial⟩
      obtain ⟨rfl, rfl⟩ := e1
      have d0 : (kd == 0) = false := by simp; omega
      have d1 : (kd == 1) = false := by simp; omega
      have d2 : (kd == 2) = false := by simp; omega
      have d3 : (kd == 3) = false := by simp; omega
      have d4 : (kd == 4) = false := by simp; omega
      have d5 : (kd == 5) = false := by simp; omega
      have d6 : (kd == 6) = false := by simp; omega
      have HZ2 := Lib.hid (HZ.out.mono (M' := M') (by omega) hf)
      clear hk HZ HCV hs9 ha9
      go_wp2_with fail
      go_meet
      exact ⟨U, HZ2.out⟩
  case rest =>
    obtain ⟨U2, HZ3⟩ := hcut
    clear HW1 HZ HCV hs9 ha9 hM
    obtain ⟨an, asx, ae⟩ := a9
    have HF := Lib.hid HZ3.fin
    have hk5 := HZ3.b5
    have hk4 := HZ3.b4
    have x0 := cell_of_row wc _ 0 _ _ _ hk5
    have x1 := cell_of_row wc _ 1 _ _ _ hk5
    have x2 := cell_of_row wc _ 2 _ _ _ hk5
    have y0 := cell_of_row wc _ 0 _ _ _ hk4
    have y1 := cell_of_row wc _ 1 _ _ _ hk4
    have y2 := cell_of_row wc _ 2 _ _ _ hk4
    have f0 : wc.frozen? ⟨w.heap.size + 1, 0, none⟩ = false := gb.frozen_at hk4
    have f1 : wc.frozen? ⟨w.heap.size + 1, 1, none⟩ = false := gb.frozen_at hk4
    have f2 : wc.frozen? ⟨w.heap.size + 1, 2, none⟩ = false := gb.frozen_at hk4
    simp only [noAns] at x0 x1 x2 y0 y1 y2
    have hlt := gb.blk_lt hk4
    have hlt2 := gb.blk_lt hk5
    clear hk4 hk5 HZ3
    go_wp2_with fail
    generalize hW : lset3 wc (w.heap.size + 1) (.int .i64 an) (.string asx) (.int .i64 ae) = W at *
    unfold lset3 at hW
    rw [hW]
    clear hW x0 x1 x2 y0 y1 y2 f0 f1 f2
    obtain ⟨hdd, hzz⟩ := HF.out
    have z0 := cell_of_row W _ 0 _ _ _ hzz
    have z1 := cell_of_row W _ 1 _ _ _ hzz
    have z2 := cell_of_row W _ 2 _ _ _ hzz
    exact bodyPost_ret (v := .agg #[.int .i64 an, .string asx, .int .i64 ae]) (by simp [results, Tryz.results15, go_sem, z0, z1, z2]) rfl ⟨rfl, hdd⟩
end
end Go.Proofs.YtoiodcaohkfdjaaGreat
namespace Go.Proofs.YtoiodcaohkfdjaaGreat
open Go.RowKit
theorem LHd.base {w0 w1 w : World} {V : Own} {g : Nat} {k : Lk} {M : Nat} (h : LHd w1 w V g k M) (hb : Below w0.heap.size w0 w1) : LHd w0 w V g k M :=
  ⟨h.1, fun i hi => Nat.le_trans hb.size (h.2.1 i hi), hb.trans (h.2.2.mono hb.size)⟩
theorem LHd.bal' {w0 w : World} {V : Own} {g : Nat} {k : Lk} {M : Nat} (h : LHd w0 w V g k M) : k.Bal := by
  obtain ⟨⟨U, ch, p, cap, h1, rfl⟩, _⟩ := h
  exact h1.bal
theorem LHd.lost0 {w0 w : World} {V : Own} {g : Nat} {k : Lk} {M : Nat} (h : LHd w0 w V g k M) : 0 ≤ k.c.lost := by
  obtain ⟨⟨U, ch, p, cap, h1, rfl⟩, _⟩ := h
  exact h1.chn.lost.1
theorem cat_fresh (ts : List (Tox × Int)) (room now : Int) : Ch.cat (frL ts room now) = ⟨#[]⟩ := by
  have h : ∀ l : List Prt, (∀ p ∈ l, p.s.S = ⟨#[]⟩) → Ch.cat l = ⟨#[]⟩ := fun l => by
    induction l with
    | nil => intro _; rfl
    | cons a r ih =>
      intro h
      show Ch.cat r ++ a.s.S = _
      rw [ih fun p hp => h p (List.mem_cons_of_mem _ hp), h a (List.mem_cons_self ..), cat_none]
  refine h _ fun p hp => ?_
  unfold frL at hp
  rcases List.mem_cons.1 hp with rfl | hp
  · rfl
  rcases List.mem_append.1 hp with hp | hp
  · obtain ⟨x, _, rfl⟩ := List.mem_map.1 hp
    rfl
  · obtain rfl := List.mem_singleton.1 hp
    rfl
theorem MkL.kept {k : Lk} {l : List Tox} {up : Bool} {room now : Int} (h : MkL k l up room now) : k.Kept ⟨#[]⟩ ⟨#[]⟩ := by
  obtain ⟨ts, hm⟩ := h.made
  refine ⟨?_, hm.zero.1, hm.zero.2.1⟩
  rw [hm.c]
  have hc := cat_fresh ts room now
  exact ⟨⟨⟨#[]⟩, by show _ = (_ ++ Ch.cat (frL ts room now)) ++ _; rw [hc]; rfl⟩, fun _ => by show _ = _ ++ Ch.cat (frL ts room now); rw [hc]; rfl⟩
theorem MkL.over {k : Lk} {l : List Tox} {up : Bool} {room now : Int} (h : MkL k l up room now) : k.Over ∧ k.fin = 0 := by
  obtain ⟨ts, hm⟩ := h.made
  refine ⟨⟨fun e => ?_, fun e => absurd hm.zero.2.2 e⟩, hm.zero.2.2⟩
  rw [hm.c] at e
  have e : (0 : Int) = 1 := e
  omega
namespace Lk
theorem kind_s (k : Lk) (o : LOp) (h : o.kind ≠ 3) : (k.ansK o).s = ⟨#[]⟩ := by
  unfold ansK
  rw [if_neg h]
  repeat' split
  all_goals rfl
theorem send_n {k : Lk} (h : Lok k) (hb : k.Bal) {o : LOp} (h0 : o.kind = 0) : 0 ≤ (k.ansK o).n ∧ (k.ansK o).n ≤ o.s.size := by
  unfold ansK
  rw [if_pos h0]
  exact (send_ok h hb o.now o.s).2.2
end Lk
end Go.Proofs.YtoiodcaohkfdjaaGreat

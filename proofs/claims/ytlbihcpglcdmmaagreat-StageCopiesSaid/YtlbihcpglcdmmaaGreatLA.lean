/-
  What stays true of a stage, as mathematics, at each call; what is none of a stage's in memory. Conditions: as each states.
-/
import Derived.Test.YtlbihcpglcdmmaaGreatZ0
import Derived.Test.YtlbihcpglcdmmaaGreatZL
namespace Go.Proofs.YtlbihcpglcdmmaaGreat
open Go.RowKit

theorem Ok.give_cut {s : St} {M : Nat} (ho : Ok s M) (n : Int) {K : Nat} (hK : K ≤ s.S.size) : Ok (cutS (giveS s n).1 K) M := by
  have hk := give_keeps s n
  exact cut_of (s := s) ho hk.1 hk.2.2.2.2.1 hk.2.2.2.1 hk.2.2.2.2.2.1 hk.2.2.2.2.2.2.2.2.2 (give_right ho n) hK
theorem Ok.takeS {s : St} {M : Nat} (ho : Ok s M) (hl : s.A.length = s.S.size) (now most : Int) : Ok (takeS s now most).1 M := by
  unfold Go.Proofs.YtlbihcpglcdmmaaGreat.takeS
  dsimp only
  split
  · exact ho.look now
  · refine (ho.look now).give_cut _ ?_
    have := gc.takeK_le (lookS s now).A (lookS s now).clock (giveS (lookS s now) (if most < ((gc.readyN (lookS s now).A (lookS s now).clock : Nat) : Int) then most else ((gc.readyN (lookS s now).A (lookS s now).clock : Nat) : Int))).2
    have hl' : (lookS s now).A.length = (lookS s now).S.size := hl
    omega
theorem Ok.doS {s : St} {M M' : Nat} (ho : Ok s M) (hl : s.A.length = s.S.size) (o : Op) (ht : o.t.s.size ≤ maxLen) (hM : M + o.s.size ≤ M') (hf : M' ≤ 1000000) : Ok (doS s o).1 M' := by
  unfold Go.Proofs.YtlbihcpglcdmmaaGreat.doS
  by_cases k0 : o.kind = 0
  · rw [if_pos k0]
    exact ho.bring o.now hM hf
  rw [if_neg k0]
  by_cases k1 : o.kind = 1
  · rw [if_pos k1]
    exact ho.push o.now hM hf
  rw [if_neg k1]
  by_cases k2 : o.kind = 2
  · rw [if_pos k2]
    exact (ho.takeS hl o.now o.n).more (by omega) hf
  rw [if_neg k2]
  by_cases k3 : o.kind = 3
  · rw [if_pos k3]
    exact (ho.close o.now).more (by omega) hf
  rw [if_neg k3]
  by_cases k4 : o.kind = 4
  · rw [if_pos k4]
    exact (ho.look o.now).more (by omega) hf
  rw [if_neg k4]
  by_cases k5 : o.kind = 5
  · rw [if_pos k5]
    exact (ho.upd o.t ht o.now).more (by omega) hf
  rw [if_neg k5]
  by_cases k6 : o.kind = 6
  · rw [if_pos k6]
    refine (⟨ho.tx, ho.name, ho.clock, ⟨ho.passed.1, ?_⟩, ho.room, ho.bk, ho.top⟩ : Ok (drainS s).1 M).more (by omega) hf
    have := ho.passed
    show s.passed + ((0 : Nat) : Int) ≤ M
    omega
  rw [if_neg k6]
  exact ho.more (by omega) hf
theorem len_force {s : St} (hl : s.A.length = s.S.size) (b : ByteArray) : (forceS s b).A.length = (forceS s b).S.size := by
  unfold forceS
  split
  · exact hl
  · split
    · show (s.A ++ List.replicate b.size _).length = (s.S ++ b).size
      rw [List.length_append, List.length_replicate, ByteArray.size_append, hl]
    · show (s.A ++ List.replicate b.size _).length = (s.S ++ b).size
      rw [List.length_append, List.length_replicate, ByteArray.size_append, hl]
theorem len_do {s : St} (hl : s.A.length = s.S.size) (o : Op) : (doS s o).1.A.length = (doS s o).1.S.size := by
  unfold doS
  by_cases k0 : o.kind = 0
  · rw [if_pos k0]
    unfold bringS
    dsimp only
    split
    · exact hl
    · exact len_force (s := lookS s o.now) hl _
  rw [if_neg k0]
  by_cases k1 : o.kind = 1
  · rw [if_pos k1]
    unfold pushS
    dsimp only
    split
    · exact hl
    · exact len_force (s := lookS s o.now) hl _
  rw [if_neg k1]
  by_cases k2 : o.kind = 2
  · rw [if_pos k2]
    unfold takeS
    dsimp only
    split
    · exact hl
    · have hk := give_keeps (lookS s o.now) (if o.n < ((gc.readyN (lookS s o.now).A (lookS s o.now).clock : Nat) : Int) then o.n else ((gc.readyN (lookS s o.now).A (lookS s o.now).clock : Nat) : Int))
      show (List.drop _ (giveS _ _).1.A).length = ((giveS _ _).1.S.extract _ (giveS _ _).1.S.size).size
      rw [hk.1, hk.2.1, List.length_drop, ByteArray.size_extract]
      have hl' : (lookS s o.now).A.length = (lookS s o.now).S.size := hl
      omega
  rw [if_neg k2]
  by_cases k3 : o.kind = 3
  · rw [if_pos k3]
    unfold closeS
    split <;> exact hl
  rw [if_neg k3]
  by_cases k4 : o.kind = 4
  · rw [if_pos k4]
    exact hl
  rw [if_neg k4]
  by_cases k5 : o.kind = 5
  · rw [if_pos k5]
    unfold updS
    (repeat' split) <;> exact hl
  rw [if_neg k5]
  by_cases k6 : o.kind = 6
  · rw [if_pos k6]
    rfl
  rw [if_neg k6]
  exact hl
/-- What calls make of a stage. -/
def runO (s : St) : List Op → St
  | [] => s
  | o :: r => runO (doS s o).1 r
theorem run_snoc (s : St) (l : List Op) (o : Op) : runO s (l ++ [o]) = (doS (runO s l) o).1 := by
  induction l generalizing s with
  | nil => rfl
  | cons x r ih => exact ih _
theorem run_take (s : St) (os : List Op) (k : Nat) (hk : k < os.length) : runO s (os.take (k + 1)) = (doS (runO s (os.take k)) (os.getD k noOp)).1 := by
  rw [List.take_succ_eq_append_getElem hk, run_snoc, List.getD_eq_getElem?_getD, List.getElem?_eq_getElem hk]
  rfl
/-- A stage's blocks are of four kinds. -/
theorem rep_not {w : World} {U : Own} {g : Nat} {s : St} {M : Nat} (h : Rep w U g s M) {i : Nat} {cs : Array Value} {T : TypeId} {fr : Nat × Nat} (hi : w.heap[i]? = some (.cells cs T fr)) (h1 : T ≠ 58) (h2 : T ≠ 85) (h3 : T ≠ 5) (h4 : T ≠ 104) : ¬ U i := by
  obtain ⟨base, c, u, s', hr, _, _, rfl⟩ := h
  obtain ⟨ms, G, hR, _⟩ := hr.car
  obtain ⟨⟨c0, t0⟩, t1, t2⟩ := hR.typed
  rintro (rfl | rfl | e | e)
  · exact h1 (gc.two_types hi hr.blk)
  · exact h2 (gc.two_types hi t0)
  · obtain ⟨_, c1, t3⟩ := t1 i e
    exact h3 (gc.two_types hi t3)
  · obtain ⟨_, c1, t3⟩ := t2 i e
    exact h4 (gc.two_types hi t3)
/-- What is none of the stage's stays. -/
theorem kept_cells {w w' : World} {U U' : Own} {g : Nat} {s : St} {M : Nat} (h : Rep w U g s M) (hr : Rest w U w' U') {i : Nat} {cs : Array Value} {T : TypeId} {fr : Nat × Nat} (hi : w.heap[i]? = some (.cells cs T fr)) (h1 : T ≠ 58) (h2 : T ≠ 85) (h3 : T ≠ 5) (h4 : T ≠ 104) : w'.heap[i]? = some (.cells cs T fr) :=
  (hr i (Array.getElem?_eq_some_iff.1 hi).1 (rep_not h hi h1 h2 h3 h4)).1.trans hi
theorem kept_R {w w' : World} {U U' : Own} {g q n c : Nat} {p : Option Addr} {s r : St} {M : Nat} (h : Rep w U g s M) (hr : Rest w U w' U') (hq : RAt w q p n c r) : RAt w' q p n c r := kept_cells h hr hq (by decide) (by decide) (by decide) (by decide)
theorem kept_row {w w' : World} {U U' : Own} {g n c : Nat} {p : Option Addr} {s : St} {xs : List Int} {M : Nat} (h : Rep w U g s M) (hr : Rest w U w' U') (hq : gc.RowA w p n c xs) : gc.RowA w' p n c xs :=
  rowA_typed hq fun b cs fr hb => (kept_cells h hr hb (by decide) (by decide) (by decide) (by decide)).trans hb.symm
theorem rep_on2 {w w' : World} {U : Own} {g : Nat} {s : St} {M : Nat} (h : Rep w U g s M) (hb : ∀ i, U i → w'.heap[i]? = w.heap[i]?) : Rep w' U g s M := by
  obtain ⟨base, c, u, s', hr, ho, hs, rfl⟩ := h
  obtain ⟨ms, G, h1, h2⟩ := hr.car
  exact ⟨base, c, u, s', ⟨(hb g (Or.inl rfl)).trans hr.blk, ⟨ms, G, h1.keep (hb c (Or.inr (Or.inl rfl))) (fun i e => hb i (Or.inr (Or.inr (Or.inl e)))) (fun i e => hb i (Or.inr (Or.inr (Or.inr e)))), h2⟩, hr.base⟩, ho, hs, rfl⟩
/-- The other stage. -/
theorem kept_other {w0 w w' : World} {U U' U2 : Own} {g2 : Nat} {s2 : St} {M2 : Nat} (hr : Rest w U w' U') (hb : Below w0.heap.size w0 w') (h2 : Hd w0 w U2 g2 s2 M2) (hd : ∀ i, U2 i → ¬ U i) : Hd w0 w' U2 g2 s2 M2 ∧ ∀ i, U2 i → ¬ U' i := by
  have hl := (rep_lt h2.1).2
  exact ⟨⟨rep_on2 h2.1 (fun i hi => (hr i (hl i hi) (hd i hi)).1), h2.2.1, hb⟩, fun i hi => (hr i (hl i hi) (hd i hi)).2⟩
/-- What a seat that came in is. -/
def seatV (t : Tox) (seed room now : Int) : Value := .agg #[.string t.s, .int .i64 t.k, .bool t.up, .int .i64 t.o, .int .i64 t.a, .int .i64 t.b, .int .u64 seed, .int .i64 room, .int .i64 now]
theorem hd_setR {w0 w : World} {U : Own} {g q n c M : Nat} {p : Option Addr} {s r : St} (h : Hd w0 w U g s M) (hq : RAt w q p n c r) (hb : w0.heap.size ≤ q) (cs : Array Value) : Hd w0 (w.setRow q cs) U g s M := by
  have hu : ¬ U q := rep_not h.1 hq (by decide) (by decide) (by decide) (by decide)
  exact ⟨rep_on h.1 (by rw [size_setRow]; exact Nat.le_refl _) (fun i hi => setRow_other w q i cs (fun e => hu (by rw [← e]; exact hi))), h.2.1, below_setRow h.2.2 hb cs⟩
/-- A stage and an answer in blocks of their own. -/
theorem pair_alloc (w : World) (p : Option Addr) (n c : Nat) (s : St) (x : Ans) : ∃ W, (w.alloc (.cells (rC none 0 0 noSt) 38)).alloc (.cells (ansC noAns) 46) = W ∧ RIs W w.heap.size ∧
    ((W.setRow w.heap.size (rC p n c s)).cell? ⟨w.heap.size + 1, 0, none⟩ = some (.int .i64 0) ∧ (W.setRow w.heap.size (rC p n c s)).cell? ⟨w.heap.size + 1, 1, none⟩ = some (.string ⟨#[]⟩) ∧ (W.setRow w.heap.size (rC p n c s)).cell? ⟨w.heap.size + 1, 2, none⟩ = some (.int .i64 0)) ∧
    ((W.setRow w.heap.size (rC p n c s)).frozen? ⟨w.heap.size + 1, 0, none⟩ = false ∧ (W.setRow w.heap.size (rC p n c s)).frozen? ⟨w.heap.size + 1, 1, none⟩ = false ∧ (W.setRow w.heap.size (rC p n c s)).frozen? ⟨w.heap.size + 1, 2, none⟩ = false) ∧
    RAt (finW W w.heap.size (w.heap.size + 1) (rC p n c s) x) w.heap.size p n c s ∧ AAt (finW W w.heap.size (w.heap.size + 1) (rC p n c s) x) (w.heap.size + 1) x ∧ Below w.heap.size w (finW W w.heap.size (w.heap.size + 1) (rC p n c s) x) ∧ w.heap.size + 1 < W.heap.size := by
  have b1 : Below w.heap.size w (w.alloc (.cells (rC none 0 0 noSt) 38)) := (Below.refl _ _).alloc (Nat.le_refl _) _
  have q1 := rat_alloc w none 0 0 noSt
  obtain ⟨W1, h1⟩ : ∃ W1, w.alloc (.cells (rC none 0 0 noSt) 38) = W1 := ⟨_, rfl⟩
  have s1 : W1.heap.size = w.heap.size + 1 := by rw [← h1]; simp
  rw [h1] at b1 q1
  have b2 : Below W1.heap.size W1 (W1.alloc (.cells (ansC noAns) 46)) := (Below.refl _ _).alloc (Nat.le_refl _) _
  have a2 := heap_alloc_new W1 (.cells (ansC noAns) 46)
  obtain ⟨W, h2⟩ : ∃ W, W1.alloc (.cells (ansC noAns) 46) = W := ⟨_, rfl⟩
  rw [h2] at b2 a2
  rw [s1] at a2
  have q2 := q1.on b2
  have hb := below_setRow (gb.seqB b1 b2) (Nat.le_refl _) (rC p n c s)
  have ha : (W.setRow w.heap.size (rC p n c s)).heap[w.heap.size + 1]? = some (.cells (ansC noAns) 46 (0, 0)) := (setRow_other W _ _ _ (show w.heap.size + 1 ≠ w.heap.size by omega)).trans a2
  have hr := q2.row p n c s
  rw [h1]
  refine ⟨W, h2, q2.is, ⟨cell_of_row _ _ 0 _ _ _ ha, cell_of_row _ _ 1 _ _ _ ha, cell_of_row _ _ 2 _ _ _ ha⟩, ⟨gb.frozen_at ha, gb.frozen_at ha, gb.frozen_at ha⟩, ?_, ?_, ?_, gb.blk_lt a2⟩
  · unfold finW
    exact ((hr.far _ (by omega)).far _ (by omega)).far _ (by omega)
  · unfold finW AAt
    exact gb.set_heap (i := 2) (gb.set_heap (i := 1) (gb.set_heap (i := 0) ha (.int .i64 x.n)) (.string x.s)) (.int .i64 x.e)
  · unfold finW
    exact ((hb.setCell (p := ⟨w.heap.size + 1, 0, none⟩) (Nat.le_succ _) _).setCell (p := ⟨w.heap.size + 1, 1, none⟩) (Nat.le_succ _) _).setCell (p := ⟨w.heap.size + 1, 2, none⟩) (Nat.le_succ _) _
theorem one_alloc (w : World) (p : Option Addr) (n c : Nat) (s : St) : ∃ W, w.alloc (.cells (rC none 0 0 noSt) 38) = W ∧ RIs W w.heap.size ∧ RAt (W.setRow w.heap.size (rC p n c s)) w.heap.size p n c s ∧ Below w.heap.size w (W.setRow w.heap.size (rC p n c s)) ∧ w.heap.size < W.heap.size := by
  have b1 : Below w.heap.size w (w.alloc (.cells (rC none 0 0 noSt) 38)) := (Below.refl _ _).alloc (Nat.le_refl _) _
  have q1 := rat_alloc w none 0 0 noSt
  exact ⟨_, rfl, q1.is, q1.row p n c s, below_setRow b1 (Nat.le_refl _) _, q1.lt⟩
end Go.Proofs.YtlbihcpglcdmmaaGreat

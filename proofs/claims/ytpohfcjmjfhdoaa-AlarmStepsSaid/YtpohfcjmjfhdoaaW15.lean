/-
  Contract: the statements' own does, over alarms. Conditions: as each states.
-/
import Derived.Test.YtpohfcjmjfhdoaaW14
namespace Go.Proofs.Ytpohfcjmjfhdoaa
open Go.RowKit Go.Sort Go.Maps

theorem Al.set {w : World} {base g : Nat} {u : Option Nat} {m : Nat} {L : List Due} {last : Int} (h : Al w base g u m L last) {i : Nat} {cs : Array Value} {T : TypeId} {fr : Nat × Nat} (h1 : T ≠ 62) (h2 : T ≠ 38) (hi : w.heap[i]? = some (.cells cs T fr)) (j : Nat) (v : Value) : Al (w.setCell ⟨i, j, none⟩ v) base g u m L last := by
  obtain ⟨s, hM, hL⟩ := id h.ex
  obtain ⟨v', a1, a2, a3⟩ := hM.ex
  obtain ⟨es, cl, hm⟩ := map_block hM.map
  refine h.grown (grown_set w ⟨i, j, none⟩ v) (fun e => ?_) (fun e => ?_) (fun k hk e => ?_)
  · injection e with e
    have e : i = g := e
    rw [e, a1] at hi
    simp at hi
    exact h1 hi.2.1.symm
  · injection e with e
    have e : i = m := e
    rw [e, hm] at hi
    cases hi
  · injection e with e
    have e : i = k := e
    rw [hk] at a3
    rcases a2.2 with ⟨rfl, _⟩ | ⟨b, cap, cur, rfl, _, hh, _⟩
    · simp [Value.ownBlock] at a3
    · have e2 : b = k := by simpa [Value.ownBlock] using a3
      rw [e2, ← e, hi] at hh
      simp at hh
      exact h2 hh.2.1
theorem Put.set {w w2 : World} {base g : Nat} {u : Option Nat} {m : Nat} {L : List Due} {last : Int} (h : Put w base g u m L last w2) {i : Nat} {cs : Array Value} {T : TypeId} {fr : Nat × Nat} (h1 : T ≠ 62) (h2 : T ≠ 38) (hi : w2.heap[i]? = some (.cells cs T fr)) (hw : w.heap.size ≤ i) (j : Nat) (v : Value) : Put w base g u m L last (w2.setCell ⟨i, j, none⟩ v) := by
  obtain ⟨u', ha, hu, hk⟩ := h
  exact ⟨u', ha.set h1 h2 hi j v, hu, kept_far hk (grown_set w2 ⟨i, j, none⟩ v) (fun k e => by injection e with e; have e : i = k := e; omega)⟩
/-- What does tells, and what becomes of the alarms. -/
def Told (w : World) (base g : Nat) (u : Option Nat) (m : Nat) (x : Ans) (e : Ending) (w' : World) : Prop := ∃ p n c, e = .returned (.agg #[.int .i64 x.N, .bool x.is, .int .i64 x.E, .slice p n c]) ∧ RowIn w' p n c x.out ∧ Put w base g u m x.ds x.last w'
theorem below3 (w : World) (o o' o'' : Obj) : Below w.heap.size w (((w.alloc o).alloc o').alloc o'') := (((Below.refl _ _).alloc (Nat.le_refl _) _).alloc (by simp) _).alloc (by simp; omega) _
/-- The three blocks of the call, where the alarms' ones may have turned. -/
theorem three_blocks {w w2 : World} {o0 o1 o2 : Obj} {base g : Nat} {u : Option Nat} {m : Nat} {L L' : List Due} {last last' : Int} (h : Al w base g u m L last) (hp : Put (((w.alloc o0).alloc o1).alloc o2) base g u m L' last' w2) :
    w2.heap[w.heap.size]? = some o0 ∧ w2.heap[w.heap.size + 1]? = some o1 ∧ w2.heap[w.heap.size + 1 + 1]? = some o2 ∧ Put w base g u m L' last' w2 := by
  obtain ⟨⟨_, b2⟩, ⟨_, b4⟩, b5⟩ := h.bounds
  obtain ⟨u', ha, hu, hk⟩ := id hp
  have s0 : (w.alloc o0).heap.size = w.heap.size + 1 := by simp
  have s1 : ((w.alloc o0).alloc o1).heap.size = w.heap.size + 1 + 1 := by simp
  have s2 : (((w.alloc o0).alloc o1).alloc o2).heap.size = w.heap.size + 1 + 1 + 1 := by simp
  have far : ∀ i, w.heap.size ≤ i → i < w.heap.size + 1 + 1 + 1 → w2.heap[i]? = (((w.alloc o0).alloc o1).alloc o2).heap[i]? := fun i h1 h2 => hk.block i (by omega) (by omega) (fun e => by have := (b5 i e).2; omega) (by omega)
  refine ⟨?_, ?_, ?_, Put.trans (kept_below (below3 w o0 o1 o2) g u m) (fun i hi => Or.inl hi) hp⟩
  · rw [far _ (by omega) (by omega), Below.heap_alloc _ _ _ (by omega), Below.heap_alloc _ _ _ (by omega)]
    exact heap_alloc_new w o0
  · rw [far _ (by omega) (by omega), Below.heap_alloc _ _ _ (by omega)]
    have := heap_alloc_new (w.alloc o0) o1
    rw [s0] at this
    exact this
  · rw [far _ (by omega) (by omega)]
    have := heap_alloc_new ((w.alloc o0).alloc o1) o2
    rw [s1] at this
    exact this
theorem tell {w w3 : World} {base g : Nat} {u : Option Nat} {m : Nat} {x : Ans} {n1 : Nat} (hn : w.heap.size ≤ n1) (hP : Put w base g u m x.ds x.last w3) (hb : w3.heap[n1]? = some (.cells #[.int .i64 0, .bool false, .int .i64 0, .slice none 0 0] 33 (0, 0))) (v : Value) :
    (set4 w3 n1 (.int .i64 x.N) (.bool x.is) (.int .i64 x.E) v).heap[n1]? = some (.cells #[.int .i64 x.N, .bool x.is, .int .i64 x.E, v] 33 (0, 0)) ∧ Put w base g u m x.ds x.last (set4 w3 n1 (.int .i64 x.N) (.bool x.is) (.int .i64 x.E) v) := by
  refine ⟨set4_heap hb _ _ _ _, ?_⟩
  unfold set4
  have h0 := set_heap (i := 0) hb (.int .i64 x.N)
  have h1 := set_heap (i := 1) h0 (.bool x.is)
  have h2 := set_heap (i := 2) h1 (.int .i64 x.E)
  exact (((hP.set (by decide) (by decide) hb hn 0 _).set (by decide) (by decide) h0 hn 1 _).set (by decide) (by decide) h1 hn 2 _).set (by decide) (by decide) h2 hn 3 _
theorem do_1 (L : List Due) (last a id : Int) : doL L last 1 a id = ⟨if isIn L id = true then L.eraseIdx (findN L id) else L, last, 0, isIn L id, 0, []⟩ := by
  by_cases h : findN L id < L.length <;> simp [doL, isIn, h, same]
theorem do_2 (L : List Due) (last a id : Int) : doL L last 2 a id = ⟨moveL L id a, last, 0, isIn L id && rightB a, 0, []⟩ := by
  by_cases h : findN L id < L.length <;> cases h' : rightB a <;> simp [doL, moveL, isIn, h, h', same]
theorem do_3 (L : List Due) (last a id : Int) : doL L last 3 a id = ⟨L, last, whenI L id, isIn L id, 0, []⟩ := by
  by_cases h : findN L id < L.length <;> simp [doL, whenI, isIn, h, same]
theorem do_4 (L : List Due) (last a id : Int) : doL L last 4 a id = ⟨L.drop (dueN L a), last, 0, false, 0, L.take (dueN L a)⟩ := by simp [doL]
theorem do_0 (L : List Due) (last a id : Int) (h : rightB a = true) : doL L last 0 a id = ⟨putD L (a, last + 1), last + 1, last + 1, false, 0, []⟩ := by simp [doL, h]
theorem do_0n (L : List Due) (last a id : Int) (h : rightB a = false) : doL L last 0 a id = ⟨L, last, 0, false, 1, []⟩ := by simp [doL, h]
theorem do_5 (L : List Due) (last kind a id : Int) (h0 : ¬ kind = 0) (h1 : ¬ kind = 1) (h2 : ¬ kind = 2) (h3 : ¬ kind = 3) (h4 : ¬ kind = 4) : doL L last kind a id = ⟨L, last, 0, false, 0, []⟩ := by simp [doL, h0, h1, h2, h3, h4, same]

theorem when_put {w : World} {base g : Nat} {u : Option Nat} {m : Nat} {L : List Due} {last : Int} (h : Al w base g u m L last) {id : Int} (hi : -9223372036854775808 ≤ id ∧ id ≤ 9223372036854775807) :
    Calls Try.prog 23 #[.pointer (some ⟨g, 0, none⟩), .int .i64 id] w fun e w' => e = .returned (.tuple #[.int .i64 (whenI L id), .bool (isIn L id)]) ∧ Put w base g u m L last w' :=
  (when_al h hi).mono fun e w' ⟨he, hw⟩ => ⟨he, by rw [← hw]; exact put_on h (Below.refl _ _)⟩
theorem bad_put {w : World} {base g : Nat} {u : Option Nat} {m : Nat} {L : List Due} {last : Int} (h : Al w base g u m L last) {a : Int} (ha : rightB a = false) :
    Calls Try.prog 20 #[.pointer (some ⟨g, 0, none⟩), .int .i64 a] w fun e w' => e = .returned (.tuple #[.int .i64 0, .int .i64 1]) ∧ Put w base g u m L last w' :=
  (set_bad g ha).mono fun e w' ⟨he, hw⟩ => ⟨he, by rw [← hw]; exact put_on h (Below.refl _ _)⟩
set_option maxHeartbeats 8000000 in
set_option maxRecDepth 10000 in
theorem does_cancel {w : World} {base g : Nat} {u : Option Nat} {m : Nat} {L : List Due} {last : Int} (h : Al w base g u m L last) {a id : Int} (hi : -9223372036854775808 ≤ id ∧ id ≤ 9223372036854775807) :
    Calls Try.prog 13 #[.pointer (some ⟨g, 0, none⟩), .agg #[.int .i64 1, .int .i64 a, .int .i64 id]] w (Told w base g u m ⟨(if isIn L id = true then L.eraseIdx (findN L id) else L), last, 0, isIn L id, 0, []⟩) := by
  have HC := Lib.hid (fun W (hW : Below w.heap.size w W) => cancel_al (h.on hW) hi)
  generalize (if isIn L id = true then L.eraseIdx (findN L id) else L) = L' at HC ⊢
  generalize isIn L id = F at HC ⊢
  have HH := Lib.hid h
  clear h hi
  go_enter Try.func13, Try.ntmps13
  go_wp2_with fail
  refine (HC.out _ (below3 _ _ _ _)).mono ?_
  rintro e w2 ⟨rfl, hp⟩
  obtain ⟨b0, b1, b2, hP⟩ := three_blocks HH.out hp
  obtain ⟨n1, hn1⟩ : ∃ n1, w.heap.size + 1 = n1 := ⟨_, rfl⟩
  obtain ⟨n2, hn2⟩ : ∃ n2, n1 + 1 = n2 := ⟨_, rfl⟩
  rw [hn1, hn2] at b2
  rw [hn1] at b1
  have hne : n1 ≠ n2 := by omega
  have x0 : w2.cell? ⟨n2, 0, none⟩ = some (.int .i64 0) := cell_of_row _ _ 0 _ _ _ b2
  have x1 : w2.cell? ⟨n2, 1, none⟩ = some (.bool false) := cell_of_row _ _ 1 _ _ _ b2
  have x2 : w2.cell? ⟨n2, 2, none⟩ = some (.int .i64 0) := cell_of_row _ _ 2 _ _ _ b2
  have x3 : w2.cell? ⟨n2, 3, none⟩ = some (.slice none 0 0) := cell_of_row _ _ 3 _ _ _ b2
  have f2 : ∀ i, w2.frozen? ⟨n2, i, none⟩ = false := fun i => frozen_at b2
  have y0 : w2.cell? ⟨n1, 0, none⟩ = some (.int .i64 0) := cell_of_row _ _ 0 _ _ _ b1
  have y1 : w2.cell? ⟨n1, 1, none⟩ = some (.bool false) := cell_of_row _ _ 1 _ _ _ b1
  have y2 : w2.cell? ⟨n1, 2, none⟩ = some (.int .i64 0) := cell_of_row _ _ 2 _ _ _ b1
  have y3 : w2.cell? ⟨n1, 3, none⟩ = some (.slice none 0 0) := cell_of_row _ _ 3 _ _ _ b1
  have f1 : ∀ i, w2.frozen? ⟨n1, i, none⟩ = false := fun i => frozen_at b1
  have hs0 := set_heap (i := 1) b2 (.bool F)
  have hq0 := hP.set (by decide) (by decide) b2 (by omega) 1 (.bool F)
  have hc0 := (Below.heap_setCell _ ⟨n2, 1, none⟩ (.bool F) n1 hne).trans b1
  have ht := tell (x := ⟨L', last, 0, F, 0, []⟩) (by omega) hq0 hc0 (.slice none 0 0)
  have HT := Lib.hid ht
  have HRW := Lib.hid (fun (W : World) => row_nil W none)
  clear ht hs0 hq0 hc0 hP b0 b1 b2 hp hne
  go_wp2_with fail
  clear x0 x1 x2 x3 f2 y0 y1 y2 y3 f1
  generalize hW : set4 (w2.setCell ⟨n2, 1, none⟩ (.bool F)) n1 (.int .i64 0) (.bool F) (.int .i64 0) (.slice none 0 0) = W at *
  unfold set4 at hW
  rw [hW]
  clear hW
  have z0 : W.cell? ⟨n1, 0, none⟩ = some (.int .i64 0) := cell_of_row W _ 0 _ _ _ HT.out.1
  have z1 : W.cell? ⟨n1, 1, none⟩ = some (.bool F) := cell_of_row W _ 1 _ _ _ HT.out.1
  have z2 : W.cell? ⟨n1, 2, none⟩ = some (.int .i64 0) := cell_of_row W _ 2 _ _ _ HT.out.1
  have z3 : W.cell? ⟨n1, 3, none⟩ = some (.slice none 0 0) := cell_of_row W _ 3 _ _ _ HT.out.1
  exact bodyPost_ret (v := .agg #[.int .i64 0, .bool F, .int .i64 0, .slice none 0 0]) (by simp [results, Try.results13, go_sem, z0, z1, z2, z3]) rfl ⟨_, _, _, rfl, HRW.out _, HT.out.2⟩
set_option maxHeartbeats 8000000 in
set_option maxRecDepth 10000 in
theorem does_move {w : World} {base g : Nat} {u : Option Nat} {m : Nat} {L : List Due} {last : Int} (h : Al w base g u m L last) {a id : Int} (hi : -9223372036854775808 ≤ id ∧ id ≤ 9223372036854775807) :
    Calls Try.prog 13 #[.pointer (some ⟨g, 0, none⟩), .agg #[.int .i64 2, .int .i64 a, .int .i64 id]] w (Told w base g u m ⟨moveL L id a, last, 0, isIn L id && rightB a, 0, []⟩) := by
  have HC := Lib.hid (fun W (hW : Below w.heap.size w W) => move_al (h.on hW) hi (a := a))
  generalize moveL L id a = L' at HC ⊢
  generalize (isIn L id && rightB a) = F at HC ⊢
  have HH := Lib.hid h
  clear h hi
  go_enter Try.func13, Try.ntmps13
  go_wp2_with fail
  refine (HC.out _ (below3 _ _ _ _)).mono ?_
  rintro e w2 ⟨rfl, hp⟩
  obtain ⟨b0, b1, b2, hP⟩ := three_blocks HH.out hp
  obtain ⟨n1, hn1⟩ : ∃ n1, w.heap.size + 1 = n1 := ⟨_, rfl⟩
  obtain ⟨n2, hn2⟩ : ∃ n2, n1 + 1 = n2 := ⟨_, rfl⟩
  rw [hn1, hn2] at b2
  rw [hn1] at b1
  have hne : n1 ≠ n2 := by omega
  have x0 : w2.cell? ⟨n2, 0, none⟩ = some (.int .i64 0) := cell_of_row _ _ 0 _ _ _ b2
  have x1 : w2.cell? ⟨n2, 1, none⟩ = some (.bool false) := cell_of_row _ _ 1 _ _ _ b2
  have x2 : w2.cell? ⟨n2, 2, none⟩ = some (.int .i64 0) := cell_of_row _ _ 2 _ _ _ b2
  have x3 : w2.cell? ⟨n2, 3, none⟩ = some (.slice none 0 0) := cell_of_row _ _ 3 _ _ _ b2
  have f2 : ∀ i, w2.frozen? ⟨n2, i, none⟩ = false := fun i => frozen_at b2
  have y0 : w2.cell? ⟨n1, 0, none⟩ = some (.int .i64 0) := cell_of_row _ _ 0 _ _ _ b1
  have y1 : w2.cell? ⟨n1, 1, none⟩ = some (.bool false) := cell_of_row _ _ 1 _ _ _ b1
  have y2 : w2.cell? ⟨n1, 2, none⟩ = some (.int .i64 0) := cell_of_row _ _ 2 _ _ _ b1
  have y3 : w2.cell? ⟨n1, 3, none⟩ = some (.slice none 0 0) := cell_of_row _ _ 3 _ _ _ b1
  have f1 : ∀ i, w2.frozen? ⟨n1, i, none⟩ = false := fun i => frozen_at b1
  have hs0 := set_heap (i := 1) b2 (.bool F)
  have hq0 := hP.set (by decide) (by decide) b2 (by omega) 1 (.bool F)
  have hc0 := (Below.heap_setCell _ ⟨n2, 1, none⟩ (.bool F) n1 hne).trans b1
  have ht := tell (x := ⟨L', last, 0, F, 0, []⟩) (by omega) hq0 hc0 (.slice none 0 0)
  have HT := Lib.hid ht
  have HRW := Lib.hid (fun (W : World) => row_nil W none)
  clear ht hs0 hq0 hc0 hP b0 b1 b2 hp hne
  go_wp2_with fail
  clear x0 x1 x2 x3 f2 y0 y1 y2 y3 f1
  generalize hW : set4 (w2.setCell ⟨n2, 1, none⟩ (.bool F)) n1 (.int .i64 0) (.bool F) (.int .i64 0) (.slice none 0 0) = W at *
  unfold set4 at hW
  rw [hW]
  clear hW
  have z0 : W.cell? ⟨n1, 0, none⟩ = some (.int .i64 0) := cell_of_row W _ 0 _ _ _ HT.out.1
  have z1 : W.cell? ⟨n1, 1, none⟩ = some (.bool F) := cell_of_row W _ 1 _ _ _ HT.out.1
  have z2 : W.cell? ⟨n1, 2, none⟩ = some (.int .i64 0) := cell_of_row W _ 2 _ _ _ HT.out.1
  have z3 : W.cell? ⟨n1, 3, none⟩ = some (.slice none 0 0) := cell_of_row W _ 3 _ _ _ HT.out.1
  exact bodyPost_ret (v := .agg #[.int .i64 0, .bool F, .int .i64 0, .slice none 0 0]) (by simp [results, Try.results13, go_sem, z0, z1, z2, z3]) rfl ⟨_, _, _, rfl, HRW.out _, HT.out.2⟩
set_option maxHeartbeats 8000000 in
set_option maxRecDepth 10000 in
theorem does_when {w : World} {base g : Nat} {u : Option Nat} {m : Nat} {L : List Due} {last : Int} (h : Al w base g u m L last) {a id : Int} (hi : -9223372036854775808 ≤ id ∧ id ≤ 9223372036854775807) :
    Calls Try.prog 13 #[.pointer (some ⟨g, 0, none⟩), .agg #[.int .i64 3, .int .i64 a, .int .i64 id]] w (Told w base g u m ⟨L, last, whenI L id, isIn L id, 0, []⟩) := by
  have HC := Lib.hid (fun W (hW : Below w.heap.size w W) => when_put (h.on hW) hi)
  generalize whenI L id = N at HC ⊢
  generalize isIn L id = F at HC ⊢
  have HH := Lib.hid h
  clear h hi
  go_enter Try.func13, Try.ntmps13
  go_wp2_with fail
  refine (HC.out _ (below3 _ _ _ _)).mono ?_
  rintro e w2 ⟨rfl, hp⟩
  obtain ⟨b0, b1, b2, hP⟩ := three_blocks HH.out hp
  obtain ⟨n1, hn1⟩ : ∃ n1, w.heap.size + 1 = n1 := ⟨_, rfl⟩
  obtain ⟨n2, hn2⟩ : ∃ n2, n1 + 1 = n2 := ⟨_, rfl⟩
  rw [hn1, hn2] at b2
  rw [hn1] at b1
  have hne : n1 ≠ n2 := by omega
  have x0 : w2.cell? ⟨n2, 0, none⟩ = some (.int .i64 0) := cell_of_row _ _ 0 _ _ _ b2
  have x1 : w2.cell? ⟨n2, 1, none⟩ = some (.bool false) := cell_of_row _ _ 1 _ _ _ b2
  have x2 : w2.cell? ⟨n2, 2, none⟩ = some (.int .i64 0) := cell_of_row _ _ 2 _ _ _ b2
  have x3 : w2.cell? ⟨n2, 3, none⟩ = some (.slice none 0 0) := cell_of_row _ _ 3 _ _ _ b2
  have f2 : ∀ i, w2.frozen? ⟨n2, i, none⟩ = false := fun i => frozen_at b2
  have y0 : w2.cell? ⟨n1, 0, none⟩ = some (.int .i64 0) := cell_of_row _ _ 0 _ _ _ b1
  have y1 : w2.cell? ⟨n1, 1, none⟩ = some (.bool false) := cell_of_row _ _ 1 _ _ _ b1
  have y2 : w2.cell? ⟨n1, 2, none⟩ = some (.int .i64 0) := cell_of_row _ _ 2 _ _ _ b1
  have y3 : w2.cell? ⟨n1, 3, none⟩ = some (.slice none 0 0) := cell_of_row _ _ 3 _ _ _ b1
  have f1 : ∀ i, w2.frozen? ⟨n1, i, none⟩ = false := fun i => frozen_at b1
  have hs0 := set_heap (i := 0) b2 (.int .i64 N)
  have hq0 := hP.set (by decide) (by decide) b2 (by omega) 0 (.int .i64 N)
  have hc0 := (Below.heap_setCell _ ⟨n2, 0, none⟩ (.int .i64 N) n1 hne).trans b1
  have hs1 := set_heap (i := 1) hs0 (.bool F)
  have hq1 := hq0.set (by decide) (by decide) hs0 (by omega) 1 (.bool F)
  have hc1 := (Below.heap_setCell _ ⟨n2, 1, none⟩ (.bool F) n1 hne).trans hc0
  have ht := tell (x := ⟨L, last, N, F, 0, []⟩) (by omega) hq1 hc1 (.slice none 0 0)
  have HT := Lib.hid ht
  have HRW := Lib.hid (fun (W : World) => row_nil W none)
  clear ht hs0 hq0 hc0 hs1 hq1 hc1 hP b0 b1 b2 hp hne
  go_wp2_with fail
  clear x0 x1 x2 x3 f2 y0 y1 y2 y3 f1
  generalize hW : set4 ((w2.setCell ⟨n2, 0, none⟩ (.int .i64 N)).setCell ⟨n2, 1, none⟩ (.bool F)) n1 (.int .i64 N) (.bool F) (.int .i64 0) (.slice none 0 0) = W at *
  unfold set4 at hW
  rw [hW]
  clear hW
  have z0 : W.cell? ⟨n1, 0, none⟩ = some (.int .i64 N) := cell_of_row W _ 0 _ _ _ HT.out.1
  have z1 : W.cell? ⟨n1, 1, none⟩ = some (.bool F) := cell_of_row W _ 1 _ _ _ HT.out.1
  have z2 : W.cell? ⟨n1, 2, none⟩ = some (.int .i64 0) := cell_of_row W _ 2 _ _ _ HT.out.1
  have z3 : W.cell? ⟨n1, 3, none⟩ = some (.slice none 0 0) := cell_of_row W _ 3 _ _ _ HT.out.1
  exact bodyPost_ret (v := .agg #[.int .i64 N, .bool F, .int .i64 0, .slice none 0 0]) (by simp [results, Try.results13, go_sem, z0, z1, z2, z3]) rfl ⟨_, _, _, rfl, HRW.out _, HT.out.2⟩
set_option maxHeartbeats 8000000 in
set_option maxRecDepth 10000 in
theorem does_set {w : World} {base g : Nat} {u : Option Nat} {m : Nat} {L : List Due} {last : Int} (h : Al w base g u m L last) {a id : Int} (hmax : L.length < 4096) (htop : last + 1 ≤ 100000) (ha : rightB a = true) :
    Calls Try.prog 13 #[.pointer (some ⟨g, 0, none⟩), .agg #[.int .i64 0, .int .i64 a, .int .i64 id]] w (Told w base g u m ⟨putD L (a, last + 1), last + 1, last + 1, false, 0, []⟩) := by
  have HC := Lib.hid (fun W (hW : Below w.heap.size w W) => set_al (h.on hW) hmax htop ha)
  generalize putD L (a, last + 1) = L' at HC ⊢
  generalize last + 1 = N at HC ⊢
  have HH := Lib.hid h
  clear h hmax htop ha
  go_enter Try.func13, Try.ntmps13
  go_wp2_with fail
  refine (HC.out _ (below3 _ _ _ _)).mono ?_
  rintro e w2 ⟨rfl, hp⟩
  obtain ⟨b0, b1, b2, hP⟩ := three_blocks HH.out hp
  obtain ⟨n1, hn1⟩ : ∃ n1, w.heap.size + 1 = n1 := ⟨_, rfl⟩
  obtain ⟨n2, hn2⟩ : ∃ n2, n1 + 1 = n2 := ⟨_, rfl⟩
  rw [hn1, hn2] at b2
  rw [hn1] at b1
  have hne : n1 ≠ n2 := by omega
  have x0 : w2.cell? ⟨n2, 0, none⟩ = some (.int .i64 0) := cell_of_row _ _ 0 _ _ _ b2
  have x1 : w2.cell? ⟨n2, 1, none⟩ = some (.bool false) := cell_of_row _ _ 1 _ _ _ b2
  have x2 : w2.cell? ⟨n2, 2, none⟩ = some (.int .i64 0) := cell_of_row _ _ 2 _ _ _ b2
  have x3 : w2.cell? ⟨n2, 3, none⟩ = some (.slice none 0 0) := cell_of_row _ _ 3 _ _ _ b2
  have f2 : ∀ i, w2.frozen? ⟨n2, i, none⟩ = false := fun i => frozen_at b2
  have y0 : w2.cell? ⟨n1, 0, none⟩ = some (.int .i64 0) := cell_of_row _ _ 0 _ _ _ b1
  have y1 : w2.cell? ⟨n1, 1, none⟩ = some (.bool false) := cell_of_row _ _ 1 _ _ _ b1
  have y2 : w2.cell? ⟨n1, 2, none⟩ = some (.int .i64 0) := cell_of_row _ _ 2 _ _ _ b1
  have y3 : w2.cell? ⟨n1, 3, none⟩ = some (.slice none 0 0) := cell_of_row _ _ 3 _ _ _ b1
  have f1 : ∀ i, w2.frozen? ⟨n1, i, none⟩ = false := fun i => frozen_at b1
  have hs0 := set_heap (i := 0) b2 (.int .i64 N)
  have hq0 := hP.set (by decide) (by decide) b2 (by omega) 0 (.int .i64 N)
  have hc0 := (Below.heap_setCell _ ⟨n2, 0, none⟩ (.int .i64 N) n1 hne).trans b1
  have hs1 := set_heap (i := 2) hs0 (.int .i64 0)
  have hq1 := hq0.set (by decide) (by decide) hs0 (by omega) 2 (.int .i64 0)
  have hc1 := (Below.heap_setCell _ ⟨n2, 2, none⟩ (.int .i64 0) n1 hne).trans hc0
  have ht := tell (x := ⟨L', N, N, false, 0, []⟩) (by omega) hq1 hc1 (.slice none 0 0)
  have HT := Lib.hid ht
  have HRW := Lib.hid (fun (W : World) => row_nil W none)
  clear ht hs0 hq0 hc0 hs1 hq1 hc1 hP b0 b1 b2 hp hne
  go_wp2_with fail
  clear x0 x1 x2 x3 f2 y0 y1 y2 y3 f1
  generalize hW : set4 ((w2.setCell ⟨n2, 0, none⟩ (.int .i64 N)).setCell ⟨n2, 2, none⟩ (.int .i64 0)) n1 (.int .i64 N) (.bool false) (.int .i64 0) (.slice none 0 0) = W at *
  unfold set4 at hW
  rw [hW]
  clear hW
  have z0 : W.cell? ⟨n1, 0, none⟩ = some (.int .i64 N) := cell_of_row W _ 0 _ _ _ HT.out.1
  have z1 : W.cell? ⟨n1, 1, none⟩ = some (.bool false) := cell_of_row W _ 1 _ _ _ HT.out.1
  have z2 : W.cell? ⟨n1, 2, none⟩ = some (.int .i64 0) := cell_of_row W _ 2 _ _ _ HT.out.1
  have z3 : W.cell? ⟨n1, 3, none⟩ = some (.slice none 0 0) := cell_of_row W _ 3 _ _ _ HT.out.1
  exact bodyPost_ret (v := .agg #[.int .i64 N, .bool false, .int .i64 0, .slice none 0 0]) (by simp [results, Try.results13, go_sem, z0, z1, z2, z3]) rfl ⟨_, _, _, rfl, HRW.out _, HT.out.2⟩
set_option maxHeartbeats 8000000 in
set_option maxRecDepth 10000 in
theorem does_bad {w : World} {base g : Nat} {u : Option Nat} {m : Nat} {L : List Due} {last : Int} (h : Al w base g u m L last) {a id : Int} (ha : rightB a = false) :
    Calls Try.prog 13 #[.pointer (some ⟨g, 0, none⟩), .agg #[.int .i64 0, .int .i64 a, .int .i64 id]] w (Told w base g u m ⟨L, last, 0, false, 1, []⟩) := by
  have HC := Lib.hid (fun W (hW : Below w.heap.size w W) => bad_put (h.on hW) ha)
  have HH := Lib.hid h
  clear h ha
  go_enter Try.func13, Try.ntmps13
  go_wp2_with fail
  refine (HC.out _ (below3 _ _ _ _)).mono ?_
  rintro e w2 ⟨rfl, hp⟩
  obtain ⟨b0, b1, b2, hP⟩ := three_blocks HH.out hp
  obtain ⟨n1, hn1⟩ : ∃ n1, w.heap.size + 1 = n1 := ⟨_, rfl⟩
  obtain ⟨n2, hn2⟩ : ∃ n2, n1 + 1 = n2 := ⟨_, rfl⟩
  rw [hn1, hn2] at b2
  rw [hn1] at b1
  have hne : n1 ≠ n2 := by omega
  have x0 : w2.cell? ⟨n2, 0, none⟩ = some (.int .i64 0) := cell_of_row _ _ 0 _ _ _ b2
  have x1 : w2.cell? ⟨n2, 1, none⟩ = some (.bool false) := cell_of_row _ _ 1 _ _ _ b2
  have x2 : w2.cell? ⟨n2, 2, none⟩ = some (.int .i64 0) := cell_of_row _ _ 2 _ _ _ b2
  have x3 : w2.cell? ⟨n2, 3, none⟩ = some (.slice none 0 0) := cell_of_row _ _ 3 _ _ _ b2
  have f2 : ∀ i, w2.frozen? ⟨n2, i, none⟩ = false := fun i => frozen_at b2
  have y0 : w2.cell? ⟨n1, 0, none⟩ = some (.int .i64 0) := cell_of_row _ _ 0 _ _ _ b1
  have y1 : w2.cell? ⟨n1, 1, none⟩ = some (.bool false) := cell_of_row _ _ 1 _ _ _ b1
  have y2 : w2.cell? ⟨n1, 2, none⟩ = some (.int .i64 0) := cell_of_row _ _ 2 _ _ _ b1
  have y3 : w2.cell? ⟨n1, 3, none⟩ = some (.slice none 0 0) := cell_of_row _ _ 3 _ _ _ b1
  have f1 : ∀ i, w2.frozen? ⟨n1, i, none⟩ = false := fun i => frozen_at b1
  have hs0 := set_heap (i := 0) b2 (.int .i64 0)
  have hq0 := hP.set (by decide) (by decide) b2 (by omega) 0 (.int .i64 0)
  have hc0 := (Below.heap_setCell _ ⟨n2, 0, none⟩ (.int .i64 0) n1 hne).trans b1
  have hs1 := set_heap (i := 2) hs0 (.int .i64 1)
  have hq1 := hq0.set (by decide) (by decide) hs0 (by omega) 2 (.int .i64 1)
  have hc1 := (Below.heap_setCell _ ⟨n2, 2, none⟩ (.int .i64 1) n1 hne).trans hc0
  have ht := tell (x := ⟨L, last, 0, false, 1, []⟩) (by omega) hq1 hc1 (.slice none 0 0)
  have HT := Lib.hid ht
  have HRW := Lib.hid (fun (W : World) => row_nil W none)
  clear ht hs0 hq0 hc0 hs1 hq1 hc1 hP b0 b1 b2 hp hne
  go_wp2_with fail
  clear x0 x1 x2 x3 f2 y0 y1 y2 y3 f1
  generalize hW : set4 ((w2.setCell ⟨n2, 0, none⟩ (.int .i64 0)).setCell ⟨n2, 2, none⟩ (.int .i64 1)) n1 (.int .i64 0) (.bool false) (.int .i64 1) (.slice none 0 0) = W at *
  unfold set4 at hW
  rw [hW]
  clear hW
  have z0 : W.cell? ⟨n1, 0, none⟩ = some (.int .i64 0) := cell_of_row W _ 0 _ _ _ HT.out.1
  have z1 : W.cell? ⟨n1, 1, none⟩ = some (.bool false) := cell_of_row W _ 1 _ _ _ HT.out.1
  have z2 : W.cell? ⟨n1, 2, none⟩ = some (.int .i64 1) := cell_of_row W _ 2 _ _ _ HT.out.1
  have z3 : W.cell? ⟨n1, 3, none⟩ = some (.slice none 0 0) := cell_of_row W _ 3 _ _ _ HT.out.1
  exact bodyPost_ret (v := .agg #[.int .i64 0, .bool false, .int .i64 1, .slice none 0 0]) (by simp [results, Try.results13, go_sem, z0, z1, z2, z3]) rfl ⟨_, _, _, rfl, HRW.out _, HT.out.2⟩
set_option maxHeartbeats 8000000 in
set_option maxRecDepth 10000 in
theorem does_take {w : World} {base g : Nat} {u : Option Nat} {m : Nat} {L : List Due} {last : Int} (h : Al w base g u m L last) {a id : Int}  :
    Calls Try.prog 13 #[.pointer (some ⟨g, 0, none⟩), .agg #[.int .i64 4, .int .i64 a, .int .i64 id]] w (Told w base g u m ⟨L.drop (dueN L a), last, 0, false, 0, L.take (dueN L a)⟩) := by
  have HC := Lib.hid (fun W (hW : Below w.heap.size w W) => take_al (h.on hW) a)
  have HK := Lib.hid (show dueN L a ≤ 100000 from Nat.le_trans (due_le L a) (len_int h.cnt h.top))
  have HL0 := Lib.hid (due_le L a)
  obtain ⟨K, hK⟩ : ∃ K, dueN L a = K := ⟨_, rfl⟩
  rw [hK] at HC HK HL0 ⊢
  obtain ⟨O, hO⟩ : ∃ O, L.take K = O := ⟨_, rfl⟩
  obtain ⟨D, hD⟩ : ∃ D, L.drop K = D := ⟨_, rfl⟩
  rw [hO, hD]
  have HO := Lib.hid hO
  have HD := Lib.hid hD
  have HH := Lib.hid h
  clear h hK hO hD
  go_enter Try.func13, Try.ntmps13
  go_wp2_with fail
  refine (HC.out _ (below3 _ _ _ _)).mono ?_
  rintro e w2 ⟨q, d, rfl, hT⟩
  have hp := put_here hT.al hT.kept
  obtain ⟨p', c', e', hl', hi', hpc', hnc', hc'⟩ := own_dues hT.own
  cases e'
  rw [HO.out] at hl' hi'
  rw [HD.out] at hp
  have HR := Lib.hid (rows_any q K d O w2 hl' (HK.out) hnc' hc' hi')
  have HOL := Lib.hid hl'
  obtain ⟨b0, b1, b2, hP⟩ := three_blocks HH.out hp
  have hb2s := hT.kept.size
  have hsz3 : (((w.alloc (.cells #[.int .i64 4, .int .i64 a, .int .i64 id] 30)).alloc (.cells #[.int .i64 0, .bool false, .int .i64 0, .slice none 0 0] 33)).alloc (.cells #[.int .i64 0, .bool false, .int .i64 0, .slice none 0 0] 33)).heap.size = w.heap.size + 1 + 1 + 1 := by simp
  rw [hsz3] at hb2s
  clear hT hl' hi' hpc' hnc' hc' hsz3
  obtain ⟨n1, hn1⟩ : ∃ n1, w.heap.size + 1 = n1 := ⟨_, rfl⟩
  obtain ⟨n2, hn2⟩ : ∃ n2, n1 + 1 = n2 := ⟨_, rfl⟩
  rw [hn1, hn2] at b2
  rw [hn1] at b1
  have hne : n1 ≠ n2 := by omega
  have HP0 := Lib.hid hP
  have HBB := Lib.hid (And.intro b1 b2)
  clear b0 b1 b2 hP hp
  go_wp2_with fail
  refine HR.out.mono ?_
  rintro e w3 ⟨q', d', rfl, ho3, hb3⟩
  rw [HOL.out] at ho3
  have b1 := (hb3.block _ (blk_lt HBB.out.1)).trans HBB.out.1
  have b2 := (hb3.block _ (blk_lt HBB.out.2)).trans HBB.out.2
  have hP := HP0.out.then_below hb3
  rw [HOL.out]
  have x0 : w3.cell? ⟨n2, 0, none⟩ = some (.int .i64 0) := cell_of_row _ _ 0 _ _ _ b2
  have x1 : w3.cell? ⟨n2, 1, none⟩ = some (.bool false) := cell_of_row _ _ 1 _ _ _ b2
  have x2 : w3.cell? ⟨n2, 2, none⟩ = some (.int .i64 0) := cell_of_row _ _ 2 _ _ _ b2
  have x3 : w3.cell? ⟨n2, 3, none⟩ = some (.slice none 0 0) := cell_of_row _ _ 3 _ _ _ b2
  have f2 : ∀ i, w3.frozen? ⟨n2, i, none⟩ = false := fun i => frozen_at b2
  have y0 : w3.cell? ⟨n1, 0, none⟩ = some (.int .i64 0) := cell_of_row _ _ 0 _ _ _ b1
  have y1 : w3.cell? ⟨n1, 1, none⟩ = some (.bool false) := cell_of_row _ _ 1 _ _ _ b1
  have y2 : w3.cell? ⟨n1, 2, none⟩ = some (.int .i64 0) := cell_of_row _ _ 2 _ _ _ b1
  have y3 : w3.cell? ⟨n1, 3, none⟩ = some (.slice none 0 0) := cell_of_row _ _ 3 _ _ _ b1
  have f1 : ∀ i, w3.frozen? ⟨n1, i, none⟩ = false := fun i => frozen_at b1
  have hs0 := set_heap (i := 3) b2 (.slice q' K d')
  have hq0 := hP.set (by decide) (by decide) b2 (by omega) 3 (.slice q' K d')
  have hc0 := (Below.heap_setCell _ ⟨n2, 3, none⟩ (.slice q' K d') n1 hne).trans b1
  have ht := tell (x := ⟨D, last, 0, false, 0, O⟩) (by omega) hq0 hc0 (.slice q' K d')
  have HT := Lib.hid ht
  have HRW := Lib.hid (show RowIn (set4 (w3.setCell ⟨n2, 3, none⟩ (.slice q' K d')) n1 (.int .i64 0) (.bool false) (.int .i64 0) (.slice q' K d')) q' K d' O from row_of_own ho3 fun k hk => by
    rw [set4_far _ _ _ _ (by omega), Below.heap_setCell _ _ _ _ (by show k ≠ n2; omega)])
  clear ht hs0 hq0 hc0 hP b1 b2 hne ho3 hb3
  go_wp2_with fail
  clear x0 x1 x2 x3 f2 y0 y1 y2 y3 f1
  generalize hW : set4 (w3.setCell ⟨n2, 3, none⟩ (.slice q' K d')) n1 (.int .i64 0) (.bool false) (.int .i64 0) (.slice q' K d') = W at *
  unfold set4 at hW
  rw [hW]
  clear hW
  have z0 : W.cell? ⟨n1, 0, none⟩ = some (.int .i64 0) := cell_of_row W _ 0 _ _ _ HT.out.1
  have z1 : W.cell? ⟨n1, 1, none⟩ = some (.bool false) := cell_of_row W _ 1 _ _ _ HT.out.1
  have z2 : W.cell? ⟨n1, 2, none⟩ = some (.int .i64 0) := cell_of_row W _ 2 _ _ _ HT.out.1
  have z3 : W.cell? ⟨n1, 3, none⟩ = some (.slice q' K d') := cell_of_row W _ 3 _ _ _ HT.out.1
  exact bodyPost_ret (v := .agg #[.int .i64 0, .bool false, .int .i64 0, .slice q' K d']) (by simp [results, Try.results13, go_sem, z0, z1, z2, z3]) rfl ⟨_, _, _, rfl, HRW.out, HT.out.2⟩
end Go.Proofs.Ytpohfcjmjfhdoaa

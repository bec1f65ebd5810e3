/-
  What the rows of this seat have in common: slices of calls, that came in. Conditions: as each states.
-/
import Derived.Test.YtdighjgcnaajgaaGreatMT5
import Derived.Test.YtdighjgcnaajgaaGreatRows
import Derived.ProofKit
import Derived.OpenShut
import Derived.Carry
import Derived.SizedLaws
import Derived.ChangeMaps5
import Derived.Deep.Slices
namespace Go.Proofs.YtdighjgcnaajgaaGreat
open Go.ChangeShapes Go.WideShapes Go.ChangeAt Go.RowKit

theorem own : ownKnob Tryz.prog.godebug = none := by kernel_rfl
theorem laidOut : laidOutB Tryz.prog = true := by kernel_rfl
theorem cells3 : Tryz.prog.cellsOf 3 = 1 := by kernel_rfl
theorem cells9 : Tryz.prog.cellsOf 9 = 1 := by kernel_rfl
theorem cellsB : Tryz.prog.cellsOf 4 = 1 := by kernel_rfl
theorem cellsU : Tryz.prog.cellsOf 23 = 1 := by kernel_rfl
theorem cellsTS : Tryz.prog.cellsOf 22 = 1 := by kernel_rfl
theorem cells2 : Tryz.prog.cellsOf 44 = 2 := by kernel_rfl
theorem cellsSeat : Tryz.prog.cellsOf 25 = 4 := by kernel_rfl
theorem cellsTox : Tryz.prog.cellsOf 46 = 6 := by kernel_rfl
theorem cellsOp : Tryz.prog.cellsOf 48 = 12 := by kernel_rfl
theorem range64 {x : Int} (h : (Lit.int .i64 x).wf = true) : -9223372036854775808 ≤ x ∧ x ≤ 9223372036854775807 := by
  have h1 : IntKind.i64.min = -9223372036854775808 := rfl
  have h2 : IntKind.i64.max = 9223372036854775807 := rfl
  simp only [Lit.wf, Bool.and_eq_true, decide_eq_true_eq] at h
  omega
theorem mem_all {H : Type} {P : Program} {e : TypeId} {n : Nat} (d : DataW H) {l : List (DataW H)} (h : d ∈ l) (hn : n ∈ d.weights P e) : n ∈ DataW.weightsAll P e l := by
  induction l with
  | nil => cases h
  | cons x r ih =>
    simp only [DataW.weightsAll, List.mem_append]
    rcases List.mem_cons.mp h with rfl | h'
    · exact Or.inl hn
    · exact Or.inr (ih h')


/-- A toxic's cells, as they came in. -/
theorem tox_in {H : Type} {enc : TypeId × Value → H} {W : World} {fuel : Nat} {c0 c1 c2 c3 c4 c5 : Value} {y : DataW H × List MemPlace}
    (hf : DataW.trod enc Tryz.prog W 0 (fun _ => true) true fuel 46 [c0, c1, c2, c3, c4, c5] = some y) :
    ∃ t : Tox, c0 = .string t.s ∧ c1 = .int .i64 t.k ∧ c2 = .bool t.up ∧ c3 = .int .i64 t.o ∧ c4 = .int .i64 t.a ∧ c5 = .int .i64 t.b ∧ y.2 = [] ∧ t.s.size ≤ maxLen ∧ t.s.data.toList.length ∈ y.1.weights Tryz.prog 46 := by
  obtain ⟨xs, m, hy, hx, _, hl, hi⟩ := DataW.trod_struct Tryz.underlying46 hf
  obtain ⟨y0, y1, y2, y3, y4, y5, rfl⟩ : ∃ y0 y1 y2 y3 y4 y5, xs = [y0, y1, y2, y3, y4, y5] := by
    match xs, hl with
    | [y0, y1, y2, y3, y4, y5], _ => exact ⟨y0, y1, y2, y3, y4, y5, rfl⟩
  have e0 := hi 0 _ rfl
  have e1 := hi 1 _ rfl
  have e2 := hi 2 _ rfl
  have e3 := hi 3 _ rfl
  have e4 := hi 4 _ rfl
  have e5 := hi 5 _ rfl
  simp [cells3, cells9, cellsB] at e0 e1 e2 e3 e4 e5
  obtain ⟨x0, q0, rfl, w0⟩ := DataW.trod_string Tryz.underlying9 e0
  obtain ⟨x1, q1, rfl, w1⟩ := DataW.trod_int Tryz.underlying3 e1
  obtain ⟨x2, q2, rfl⟩ := DataW.trod_bool Tryz.underlying4 e2
  obtain ⟨x3, q3, rfl, w3⟩ := DataW.trod_int Tryz.underlying3 e3
  obtain ⟨x4, q4, rfl, w4⟩ := DataW.trod_int Tryz.underlying3 e4
  obtain ⟨x5, q5, rfl, w5⟩ := DataW.trod_int Tryz.underlying3 e5
  cases q0
  cases q1
  cases q2
  cases q3
  cases q4
  cases q5
  refine ⟨⟨x0, x1, x2, x3, x4, x5⟩, rfl, rfl, rfl, rfl, rfl, rfl, ?_, w0, ?_⟩
  · rw [hx]
    rfl
  · rw [hx]
    simp only [DataW.weights, Tryz.underlying46, List.map_cons, List.map_nil]
    refine DataW.weights_mem_each (j := 0) rfl rfl _ ?_
    simp [DataW.weights]

instance : Inhabited YOp := ⟨noYop⟩
set_option maxRecDepth 10000 in
/-- Calls that came in. -/
theorem openO {H : Type} {enc : TypeId × Value → H} {W : World} {a : Option Addr} {len cap : Nat} {d : DataW H} {p : List MemPlace}
    (h : DataW.Trod enc Tryz.prog W 0 (fun _ => true) true 26 (.slice a len cap) d p) (hz : ∀ n ∈ d.weights Tryz.prog 26, n ≤ reachBytes) :
    ∃ os : List YOp, os.length = len ∧ len ≤ cap ∧ cap ≤ 9223372036854775807 ∧ (∀ o ∈ os, o.s.size ≤ 140737488351232 ∧ o.t.s.size ≤ 140737488351232) ∧ YopsIn W a len os := by
  obtain ⟨fuel, hf⟩ := h
  rcases Go.Deep.open_slice Tryz.underlying26 hf with ⟨hcs, hx⟩ | ⟨a', len', cap', m, n, D, Pl, hcs, _, hl, hm, hmm, hx, hcell⟩
  · simp [Value.cells] at hcs
    obtain ⟨rfl, rfl, rfl⟩ := hcs
    exact ⟨[], rfl, Nat.le_refl _, by omega, (fun _ h => by cases h), (fun h => absurd h (by omega))⟩
  · simp [Value.cells] at hcs
    obtain ⟨rfl, rfl, rfl⟩ := hcs
    simp only [if_true] at hmm
    simp only [Prod.mk.injEq] at hx
    unfold maxLen at hm
    rw [cellsOp] at hcell
    have each : ∀ i, i < len → ∃ o : YOp, (W.cell? (a'.add (i * 12)) = some (.int .i64 o.kind) ∧ W.cell? ((a'.add (i * 12)).add 1) = some (.int .i64 o.way) ∧ W.cell? ((a'.add (i * 12)).add 2) = some (.int .i64 o.now) ∧ W.cell? ((a'.add (i * 12)).add 3) = some (.int .i64 o.n0) ∧ W.cell? ((a'.add (i * 12)).add 4) = some (.int .i64 o.n1) ∧ W.cell? ((a'.add (i * 12)).add 5) = some (.string o.s) ∧ W.cell? ((a'.add (i * 12)).add 6) = some (.string o.t.s) ∧ W.cell? ((a'.add (i * 12)).add 7) = some (.int .i64 o.t.k) ∧ W.cell? ((a'.add (i * 12)).add 8) = some (.bool o.t.up) ∧ W.cell? ((a'.add (i * 12)).add 9) = some (.int .i64 o.t.o) ∧ W.cell? ((a'.add (i * 12)).add 10) = some (.int .i64 o.t.a) ∧ W.cell? ((a'.add (i * 12)).add 11) = some (.int .i64 o.t.b)) ∧ o.s.size ≤ 140737488351232 ∧ o.t.s.size ≤ 140737488351232 := by
      intro i hi
      obtain ⟨cs', h1, h2⟩ := hcell i (by omega)
      obtain ⟨_, hlen, hc⟩ := World.cells?_some h1
      obtain ⟨xs, k, _, hxy, _, hxl, hf'⟩ := DataW.trod_struct Tryz.underlying48 h2
      match xs, hxl, cs', hlen with
      | [y0, y1, y2, y3, y4, y5], _, [v0, v1, v2, v3, v4, v5, v6, v7, v8, v9, v10, v11], _ =>
        have g0 := hf' 0 _ rfl
        have g1 := hf' 1 _ rfl
        have g2 := hf' 2 _ rfl
        have g3 := hf' 3 _ rfl
        have g4 := hf' 4 _ rfl
        have g5 := hf' 5 _ rfl
        simp [cells3, cells9, cells2, cellsTox] at g0 g1 g2 g3 g4 g5
        obtain ⟨z0, e0, _, f0⟩ := DataW.trod_int Tryz.underlying3 g0
        obtain ⟨z1, e1, _, f1⟩ := DataW.trod_int Tryz.underlying3 g1
        obtain ⟨z2, e2, _, f2⟩ := DataW.trod_int Tryz.underlying3 g2
        obtain ⟨ys, mm, _, _, _, yl, yi⟩ := DataW.trod_array Tryz.underlying44 g3
        rw [cells3] at yi
        obtain ⟨ya, yb, rfl⟩ : ∃ ya yb, ys = [ya, yb] := by
          match ys, yl with
          | [ya, yb], _ => exact ⟨ya, yb, rfl⟩
        have u0 := yi 0 (by omega)
        have u1 := yi 1 (by omega)
        simp only [List.drop, List.take] at u0 u1
        obtain ⟨z3, e3, _, f3⟩ := DataW.trod_int Tryz.underlying3 u0
        obtain ⟨z4, e4, _, f4⟩ := DataW.trod_int Tryz.underlying3 u1
        obtain ⟨s5, e5, hd5, _⟩ := DataW.trod_string Tryz.underlying9 g4
        obtain ⟨t, t0, t1, t2, t3, t4, t5, _, tw, tz⟩ := tox_in g5
        simp only [List.cons.injEq, and_true] at e0 e1 e2 e3 e4 e5
        have c0 := hc 0 (by omega)
        have c1 := hc 1 (by omega)
        have c2 := hc 2 (by omega)
        have c3 := hc 3 (by omega)
        have c4 := hc 4 (by omega)
        have c5 := hc 5 (by omega)
        have c6 := hc 6 (by omega)
        have c7 := hc 7 (by omega)
        have c8 := hc 8 (by omega)
        have c9 := hc 9 (by omega)
        have c10 := hc 10 (by omega)
        have c11 := hc 11 (by omega)
        simp only [List.getElem?_cons_zero, List.getElem?_cons_succ, e0, e1, e2, e3, e4, e5, t0, t1, t2, t3, t4, t5] at c0 c1 c2 c3 c4 c5 c6 c7 c8 c9 c10 c11
        refine ⟨⟨z0, z1, z2, z3, z4, s5, t⟩, ⟨by rw [← c0]; simp [Addr.add], c1, c2, c3, c4, c5, c6, c7, c8, c9, c10, c11⟩, ?_, ?_⟩
        · have hw : s5.data.toList.length ∈ d.weights Tryz.prog 26 := by
            rw [hx.1]
            simp only [DataW.weights, Tryz.underlying26]
            refine List.mem_cons_of_mem _ (List.mem_append_left _ ?_)
            refine mem_all (D i) (List.mem_map.mpr ⟨i, List.mem_range.mpr hi, rfl⟩) ?_
            simp only [Prod.mk.injEq] at hxy
            rw [hxy.1]
            simp only [DataW.weights, Tryz.underlying48, List.map_cons, List.map_nil]
            refine DataW.weights_mem_each (j := 4) rfl rfl _ ?_
            rw [hd5]
            simp [DataW.weights]
          have := hz _ hw
          simp only [reachBytes, Array.length_toList] at this
          exact this
        · have hw : t.s.data.toList.length ∈ d.weights Tryz.prog 26 := by
            rw [hx.1]
            simp only [DataW.weights, Tryz.underlying26]
            refine List.mem_cons_of_mem _ (List.mem_append_left _ ?_)
            refine mem_all (D i) (List.mem_map.mpr ⟨i, List.mem_range.mpr hi, rfl⟩) ?_
            simp only [Prod.mk.injEq] at hxy
            rw [hxy.1]
            simp only [DataW.weights, Tryz.underlying48, List.map_cons, List.map_nil]
            refine DataW.weights_mem_each (j := 5) rfl rfl _ ?_
            exact tz
          have := hz _ hw
          simp only [reachBytes, Array.length_toList] at this
          exact this
    obtain ⟨f, hfe⟩ := Go.Deep.choose_lt each
    refine ⟨(List.range len).map f, by simp, by omega, by omega, fun x hx' => ?_, fun hn => ?_⟩
    · obtain ⟨i, hi, rfl⟩ := List.mem_map.mp hx'
      exact (hfe i (List.mem_range.mp hi)).2
    · obtain ⟨b, o, s⟩ := a'
      obtain rfl : s = none := by simpa [Addr.add] using World.cell?_spot (hfe 0 (by omega)).1.1
      refine ⟨b, o, rfl, fun i hi => ?_⟩
      obtain ⟨⟨h0, h1, h2, h3, h4, h5, h6, h7, h8, h9, h10, h11⟩, _⟩ := hfe i hi
      rw [add_plain] at h0 h1 h2 h3 h4 h5 h6 h7 h8 h9 h10 h11
      rw [add_plain] at h1 h2 h3 h4 h5 h6 h7 h8 h9 h10 h11
      simp only [← Nat.add_assoc]
      rw [h0, h1, h2, h3, h4, h5, h6, h7, h8, h9, h10, h11]
      simp [List.getD, hi]
instance : Inhabited Tox := ⟨noTox⟩
set_option maxRecDepth 10000 in
/-- Toxics that came in. -/
theorem tox_slice {H : Type} {enc : TypeId × Value → H} {W : World} {fuel : Nat} {cs : List Value} {x : DataW H × List MemPlace}
    (hf : DataW.trod enc Tryz.prog W 0 (fun _ => true) true fuel 22 cs = some x) (hz : ∀ n ∈ x.1.weights Tryz.prog 22, n ≤ reachBytes) :
    ∃ (pl : Option Addr) (nl dl : Nat) (l : List Tox), cs = [.slice pl nl dl] ∧ l.length = nl ∧ nl ≤ dl ∧ (∀ t ∈ l, t.s.size ≤ 140737488351232) ∧ ToxIn W pl nl l := by
  rcases Go.Deep.open_slice Tryz.underlying22 hf with ⟨rfl, _⟩ | ⟨a, len, cap, m, n, D, Pl, rfl, _, hl, hm, hmm, hx, hcell⟩
  · exact ⟨none, 0, 0, [], rfl, rfl, Nat.le_refl _, (fun _ h => by cases h), fun h => absurd h (Nat.lt_irrefl _)⟩
  · simp only [if_true] at hmm
    rw [cellsTox] at hcell
    have each : ∀ i, i < len → ∃ t : Tox, W.cell? (a.add (i * 6)) = some (.string t.s) ∧ W.cell? ((a.add (i * 6)).add 1) = some (.int .i64 t.k) ∧ W.cell? ((a.add (i * 6)).add 2) = some (.bool t.up) ∧ W.cell? ((a.add (i * 6)).add 3) = some (.int .i64 t.o) ∧ W.cell? ((a.add (i * 6)).add 4) = some (.int .i64 t.a) ∧ W.cell? ((a.add (i * 6)).add 5) = some (.int .i64 t.b) ∧ t.s.size ≤ 140737488351232 := by
      intro i hi
      obtain ⟨cs', h1, h2⟩ := hcell i (by omega)
      obtain ⟨_, hlen, hc⟩ := World.cells?_some h1
      match cs', hlen with
      | [v0, v1, v2, v3, v4, v5], _ =>
        obtain ⟨t, t0, t1, t2, t3, t4, t5, _, tw, tz⟩ := tox_in h2
        have c0 := hc 0 (by omega)
        have c1 := hc 1 (by omega)
        have c2 := hc 2 (by omega)
        have c3 := hc 3 (by omega)
        have c4 := hc 4 (by omega)
        have c5 := hc 5 (by omega)
        simp only [List.getElem?_cons_zero, List.getElem?_cons_succ, t0, t1, t2, t3, t4, t5] at c0 c1 c2 c3 c4 c5
        refine ⟨t, by rw [← c0]; simp [Addr.add], c1, c2, c3, c4, c5, ?_⟩
        have hw : t.s.data.toList.length ∈ x.1.weights Tryz.prog 22 := by
          rw [hx]
          simp only [DataW.weights, Tryz.underlying22]
          refine List.mem_cons_of_mem _ (List.mem_append_left _ ?_)
          exact mem_all (D i) (List.mem_map.mpr ⟨i, List.mem_range.mpr hi, rfl⟩) tz
        have := hz _ hw
        simp only [reachBytes, Array.length_toList] at this
        exact this
    obtain ⟨f, hfe⟩ := Go.Deep.choose_lt each
    refine ⟨some a, len, cap, (List.range len).map f, rfl, by simp, by omega, fun x hx' => ?_, fun hn => ?_⟩
    · obtain ⟨i, hi, rfl⟩ := List.mem_map.mp hx'
      exact (hfe i (List.mem_range.mp hi)).2.2.2.2.2.2
    · obtain ⟨b, o, s⟩ := a
      obtain rfl : s = none := by simpa [Addr.add] using World.cell?_spot (hfe 0 (by omega)).1
      refine ⟨b, o, rfl, fun i hi => ?_⟩
      obtain ⟨h0, h1, h2, h3, h4, h5, _⟩ := hfe i hi
      rw [add_plain] at h0 h1 h2 h3 h4 h5
      rw [add_plain] at h1 h2 h3 h4 h5
      simp only [← Nat.add_assoc]
      rw [h0, h1, h2, h3, h4, h5]
      simp [List.getD, hi]
def seatL (pl : Option Addr) (nl dl : Nat) (seed room now : Int) : Value := .agg #[.slice pl nl dl, .int .u64 seed, .int .i64 room, .int .i64 now]
set_option maxRecDepth 10000 in
/-- A seat that came in. -/
theorem openSeat {H : Type} {enc : TypeId × Value → H} {W : World} {base : Nat} {v : Value} {d : DataW H} {p : List MemPlace}
    (ho : Value.okWide Tryz.prog W .any base 25 v) (h : DataW.Trod enc Tryz.prog W 0 (fun _ => true) true 25 v d p) (hz : ∀ n ∈ d.weights Tryz.prog 25, n ≤ reachBytes) :
    ∃ (pl : Option Addr) (nl dl : Nat) (l : List Tox) (seed room now : Int), v = seatL pl nl dl seed room now ∧ l.length = nl ∧ nl ≤ dl ∧ (∀ t ∈ l, t.s.size ≤ 140737488351232) ∧ ToxIn W pl nl l := by
  simp only [Value.okWide, Tryz.underlying25] at ho
  obtain ⟨cs, rfl, hs, _⟩ := ho
  rw [cellsSeat] at hs
  obtain ⟨l⟩ := cs
  obtain ⟨c0, c1, c2, c3, rfl⟩ : ∃ c0 c1 c2 c3, l = [c0, c1, c2, c3] := by
    match l, hs with
    | [c0, c1, c2, c3], _ => exact ⟨c0, c1, c2, c3, rfl⟩
  obtain ⟨fuel, hf⟩ := h
  obtain ⟨xs, m, rfl, hx, _, hl, hi⟩ := DataW.trod_struct Tryz.underlying25 hf
  obtain ⟨y0, y1, y2, y3, rfl⟩ : ∃ y0 y1 y2 y3, xs = [y0, y1, y2, y3] := by
    match xs, hl with
    | [y0, y1, y2, y3], _ => exact ⟨y0, y1, y2, y3, rfl⟩
  have e0 := hi 0 _ rfl
  have e1 := hi 1 _ rfl
  have e2 := hi 2 _ rfl
  have e3 := hi 3 _ rfl
  simp [cells3, cellsU, cellsTS, Value.cells] at e0 e1 e2 e3
  obtain ⟨pl, nl, dl, l, hcs, h1, h2, h3, h4⟩ := tox_slice e0 (fun n hn => hz n (by
    have hd : d = .agg [y0.1, y1.1, y2.1, y3.1] := congrArg Prod.fst hx
    rw [hd]
    simp only [DataW.weights, Tryz.underlying25, List.map_cons, List.map_nil]
    exact DataW.weights_mem_each (j := 0) rfl rfl _ hn))
  obtain ⟨x1, q1, rfl, w1⟩ := DataW.trod_int Tryz.underlying23 e1
  obtain ⟨x2, q2, rfl, w2⟩ := DataW.trod_int Tryz.underlying3 e2
  obtain ⟨x3, q3, rfl, w3⟩ := DataW.trod_int Tryz.underlying3 e3
  cases q1
  cases q2
  cases q3
  simp only [List.cons.injEq, and_true] at hcs
  subst hcs
  exact ⟨pl, nl, dl, l, x1, x2, x3, rfl, h1, h2, h3, h4⟩
set_option maxRecDepth 10000 in
/-- A toxic that came in. -/
theorem openTox {H : Type} {enc : TypeId × Value → H} {W : World} {base : Nat} {v : Value} {d : DataW H} {p : List MemPlace}
    (ho : Value.okWide Tryz.prog W .any base 46 v) (h : DataW.Trod enc Tryz.prog W 0 (fun _ => true) true 46 v d p) (hz : ∀ n ∈ d.weights Tryz.prog 46, n ≤ reachBytes) :
    ∃ t : Tox, v = t.v ∧ t.s.size ≤ 140737488351232 ∧ p = [] := by
  simp only [Value.okWide, Tryz.underlying46] at ho
  obtain ⟨cs, rfl, hs, _⟩ := ho
  rw [cellsTox] at hs
  obtain ⟨l⟩ := cs
  match l, hs with
  | [c0, c1, c2, c3, c4, c5], _ =>
    obtain ⟨fuel, hf⟩ := h
    obtain ⟨t, rfl, rfl, rfl, rfl, rfl, rfl, hp, tw, tz⟩ := tox_in hf
    refine ⟨t, rfl, ?_, hp⟩
    have := hz _ tz
    simp only [reachBytes, Array.length_toList] at this
    exact this
end Go.Proofs.YtdighjgcnaajgaaGreat

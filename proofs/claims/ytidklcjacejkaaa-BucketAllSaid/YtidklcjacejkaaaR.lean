/-
  What the rows of this seat have in common: buckets, pairs of numbers, slices of steps that came in. Conditions: as each states.
-/
import Derived.Test.YtidklcjacejkaaaO
import Derived.Test.YtidklcjacejkaaaRows
import Derived.ProofKit
import Derived.OpenShut
import Derived.Carry
import Derived.SizedLaws
import Derived.ChangeMaps5
import Derived.Deep.Slices
namespace Go.Proofs.Ytidklcjacejkaaa
open Go.ChangeShapes Go.WideShapes Go.ChangeAt Go.RowKit

theorem own : ownKnob Try.prog.godebug = none := by kernel_rfl
theorem laidOut : laidOutB Try.prog = true := by kernel_rfl
theorem cells3 : Try.prog.cellsOf 3 = 1 := by kernel_rfl
theorem cellsBk : Try.prog.cellsOf 23 = 4 := by kernel_rfl
theorem cellsStp : Try.prog.cellsOf 46 = 2 := by kernel_rfl
theorem cellsTwo : Try.prog.cellsOf 50 = 2 := by kernel_rfl
theorem range64 {x : Int} (h : (Lit.int .i64 x).wf = true) : -9223372036854775808 ≤ x ∧ x ≤ 9223372036854775807 := by
  have h1 : IntKind.i64.min = -9223372036854775808 := rfl
  have h2 : IntKind.i64.max = 9223372036854775807 := rfl
  simp only [Lit.wf, Bool.and_eq_true, decide_eq_true_eq] at h
  omega
theorem openTwo {H : Type} {enc : TypeId × Value → H} {W : World} {base : Nat} {v : Value} {d : DataW H} {p : List MemPlace}
    (ho : Value.okWide Try.prog W .any base 50 v) (h : DataW.Trod enc Try.prog W 0 (fun _ => true) true 50 v d p) :
    ∃ x y : Int, v = .agg #[.int .i64 x, .int .i64 y] ∧ p = [] ∧ (Lit.int .i64 x).wf = true ∧ (Lit.int .i64 y).wf = true := by
  simp only [Value.okWide, Try.underlying50] at ho
  obtain ⟨cs, rfl, hs, _⟩ := ho
  rw [cellsTwo] at hs
  obtain ⟨l⟩ := cs
  obtain ⟨c0, c1, rfl⟩ : ∃ c0 c1, l = [c0, c1] := by
    match l, hs with
    | [c0, c1], _ => exact ⟨c0, c1, rfl⟩
  obtain ⟨fuel, hf⟩ := h
  obtain ⟨xs, m, rfl, hx, _, hl, hi⟩ := DataW.trod_array Try.underlying50 hf
  rw [cells3] at hi
  have e0 := hi 0 (by omega)
  have e1 := hi 1 (by omega)
  simp only [Value.cells, List.drop, List.take, Nat.one_mul] at e0 e1
  obtain ⟨y0, y1, rfl⟩ : ∃ y0 y1, xs = [y0, y1] := by
    match xs, hl with
    | [y0, y1], _ => exact ⟨y0, y1, rfl⟩
  obtain ⟨x, ex, rfl, w0⟩ := DataW.trod_int Try.underlying3 e0
  obtain ⟨y, ey, rfl, w1⟩ := DataW.trod_int Try.underlying3 e1
  cases ex
  cases ey
  refine ⟨x, y, rfl, ?_, w0, w1⟩
  simpa using (congrArg Prod.snd hx)
/-- A bucket that came in. -/
theorem openBk {H : Type} {enc : TypeId × Value → H} {W : World} {base : Nat} {v : Value} {d : DataW H} {p : List MemPlace}
    (ho : Value.okWide Try.prog W .any base 23 v) (h : DataW.Trod enc Try.prog W 0 (fun _ => true) true 23 v d p) :
    ∃ x y z t : Int, v = .agg #[.int .i64 x, .int .i64 y, .int .i64 z, .int .i64 t] ∧ p = [] ∧ (Lit.int .i64 x).wf = true ∧ (Lit.int .i64 y).wf = true ∧ (Lit.int .i64 z).wf = true ∧ (Lit.int .i64 t).wf = true := by
  simp only [Value.okWide, Try.underlying23] at ho
  obtain ⟨cs, rfl, hs, _⟩ := ho
  rw [cellsBk] at hs
  obtain ⟨l⟩ := cs
  obtain ⟨c0, c1, c2, c3, rfl⟩ : ∃ c0 c1 c2 c3, l = [c0, c1, c2, c3] := by
    match l, hs with
    | [c0, c1, c2, c3], _ => exact ⟨c0, c1, c2, c3, rfl⟩
  obtain ⟨fuel, hf⟩ := h
  obtain ⟨xs, m, rfl, hx, _, hl, hi⟩ := DataW.trod_struct Try.underlying23 hf
  obtain ⟨y0, y1, y2, y3, rfl⟩ : ∃ y0 y1 y2 y3, xs = [y0, y1, y2, y3] := by
    match xs, hl with
    | [y0, y1, y2, y3], _ => exact ⟨y0, y1, y2, y3, rfl⟩
  have e0 := hi 0 _ rfl
  have e1 := hi 1 _ rfl
  have e2 := hi 2 _ rfl
  have e3 := hi 3 _ rfl
  simp [cells3, Value.cells] at e0 e1 e2 e3
  obtain ⟨x0, ex, rfl, w0⟩ := DataW.trod_int Try.underlying3 e0
  obtain ⟨x1, ey, rfl, w1⟩ := DataW.trod_int Try.underlying3 e1
  obtain ⟨x2, ez, rfl, w2⟩ := DataW.trod_int Try.underlying3 e2
  obtain ⟨x3, et, rfl, w3⟩ := DataW.trod_int Try.underlying3 e3
  cases ex
  cases ey
  cases ez
  cases et
  refine ⟨x0, x1, x2, x3, rfl, ?_, w0, w1, w2, w3⟩
  simpa using (congrArg Prod.snd hx)
/-- Steps that came in. -/
theorem openS {H : Type} {enc : TypeId × Value → H} {W : World} {a : Option Addr} {len cap : Nat} {d : DataW H} {p : List MemPlace}
    (h : DataW.Trod enc Try.prog W 0 (fun _ => true) true 40 (.slice a len cap) d p) :
    ∃ os : List Stp, os.length = len ∧ len ≤ cap ∧ cap ≤ 9223372036854775807 ∧ (∀ o ∈ os, Wf64 o.1 ∧ Wf64 o.2) ∧ (a = none → cap = 0) ∧ StpsIn W a len os := by
  obtain ⟨fuel, hf⟩ := h
  rcases Go.Deep.open_slice Try.underlying40 hf with ⟨hcs, hx⟩ | ⟨a', len', cap', m, n, D, Pl, hcs, _, hl, hm, hmm, hx, hcell⟩
  · simp [Value.cells] at hcs
    obtain ⟨rfl, rfl, rfl⟩ := hcs
    exact ⟨[], rfl, Nat.le_refl _, by omega, (fun _ h => by cases h), (fun _ => rfl), (fun h => absurd h (by omega))⟩
  · simp [Value.cells] at hcs
    obtain ⟨rfl, rfl, rfl⟩ := hcs
    simp only [if_true] at hmm
    unfold maxLen at hm
    rw [cellsStp] at hcell
    have each : ∀ i, i < len → ∃ o : Stp, W.cell? (a'.add (i * 2)) = some (.int .i64 o.1) ∧ W.cell? ((a'.add (i * 2)).add 1) = some (.int .i64 o.2) ∧ (Lit.int .i64 o.1).wf = true ∧ (Lit.int .i64 o.2).wf = true := by
      intro i hi
      obtain ⟨cs', h1, h2⟩ := hcell i (by omega)
      obtain ⟨_, hlen, hc⟩ := World.cells?_some h1
      obtain ⟨xs, k, _, _, _, hxl, hf'⟩ := DataW.trod_struct Try.underlying46 h2
      match xs, hxl, cs', hlen with
      | [y0, y1], _, [v0, v1], _ =>
        have g0 := hf' 0 _ rfl
        have g1 := hf' 1 _ rfl
        simp [cells3] at g0 g1
        obtain ⟨z0, e0, _, f0⟩ := DataW.trod_int Try.underlying3 g0
        obtain ⟨z1, e1, _, f1⟩ := DataW.trod_int Try.underlying3 g1
        simp only [List.cons.injEq, and_true] at e0 e1
        have c0 := hc 0 (by omega)
        have c1 := hc 1 (by omega)
        simp only [List.getElem?_cons_zero, List.getElem?_cons_succ, e0, e1] at c0 c1
        exact ⟨(z0, z1), by rw [← c0]; simp [Addr.add], c1, f0, f1⟩
    obtain ⟨f, hfe⟩ := Go.Deep.choose_lt each
    refine ⟨(List.range len).map f, by simp, by omega, by omega, fun x hx' => ?_, (fun h => by cases h), fun hn => ?_⟩
    · obtain ⟨i, hi, rfl⟩ := List.mem_map.mp hx'
      have := hfe i (List.mem_range.mp hi)
      exact ⟨range64 this.2.2.1, range64 this.2.2.2⟩
    · obtain ⟨b, o, s⟩ := a'
      obtain rfl : s = none := by simpa [Addr.add] using World.cell?_spot (hfe 0 (by omega)).1
      refine ⟨b, o, rfl, fun i hi => ?_⟩
      obtain ⟨h0, h1, _⟩ := hfe i hi
      rw [add_plain] at h0 h1
      rw [add_plain] at h1
      rw [← Nat.add_assoc, h0, h1]
      simp [List.getD, hi]
end Go.Proofs.Ytidklcjacejkaaa

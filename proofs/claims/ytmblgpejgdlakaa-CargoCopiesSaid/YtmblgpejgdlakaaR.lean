/-
  What the rows of this seat have in common: slices of calls, and pairs of numbers, that came in. Conditions: as each states.
-/
import Derived.Test.YtmblgpejgdlakaaO
import Derived.Test.YtmblgpejgdlakaaRows
import Derived.ProofKit
import Derived.OpenShut
import Derived.Carry
import Derived.SizedLaws
import Derived.ChangeMaps5
import Derived.Deep.Slices
namespace Go.Proofs.Ytmblgpejgdlakaa
open Go.ChangeShapes Go.WideShapes Go.ChangeAt Go.RowKit

theorem own : ownKnob Try.prog.godebug = none := by kernel_rfl
theorem laidOut : laidOutB Try.prog = true := by kernel_rfl
theorem cells3 : Try.prog.cellsOf 3 = 1 := by kernel_rfl
theorem cells9 : Try.prog.cellsOf 9 = 1 := by kernel_rfl
theorem cellsOp : Try.prog.cellsOf 31 = 4 := by kernel_rfl
theorem cellsTwo : Try.prog.cellsOf 50 = 2 := by kernel_rfl
theorem range64 {x : Int} (h : (Lit.int .i64 x).wf = true) : -9223372036854775808 ≤ x ∧ x ≤ 9223372036854775807 := by
  have h1 : IntKind.i64.min = -9223372036854775808 := rfl
  have h2 : IntKind.i64.max = 9223372036854775807 := rfl
  simp only [Lit.wf, Bool.and_eq_true, decide_eq_true_eq] at h
  omega
theorem mem_all {H : Type} {P : Program} {e : TypeId} {n : Nat} (d : DataW H) {l : List (DataW H)} (h : d ∈ l) (hn : n ∈ d.weights P e) : n ∈ DataW.weightsAll P e l := by
  induction l with
  | nil => cases h
  | cons x r ih =>
    simp only [DataW.weightsAll, List.mem_append]
    rcases List.mem_cons.mp h with rfl | h'
    · exact Or.inl hn
    · exact Or.inr (ih h')
theorem range8 {x : Int} (h : (Lit.int .u8 x).wf = true) : 0 ≤ x ∧ x < 256 := by
  have h1 : IntKind.u8.min = 0 := rfl
  have h2 : IntKind.u8.max = 255 := rfl
  simp only [Lit.wf, Bool.and_eq_true, decide_eq_true_eq] at h
  omega

theorem openTwo {H : Type} {enc : TypeId × Value → H} {W : World} {base : Nat} {v : Value} {d : DataW H} {p : List MemPlace}
    (ho : Value.okWide Try.prog W .any base 50 v) (h : DataW.Trod enc Try.prog W 0 (fun _ => true) true 50 v d p) :
    ∃ x y : Int, v = .agg #[.int .i64 x, .int .i64 y] ∧ p = [] ∧ (Lit.int .i64 x).wf = true ∧ (Lit.int .i64 y).wf = true := by
  simp only [Value.okWide, Try.underlying50] at ho
  obtain ⟨cs, rfl, hs, _⟩ := ho
  rw [cellsTwo] at hs
  obtain ⟨l⟩ := cs
  obtain ⟨c0, c1, rfl⟩ : ∃ c0 c1, l = [c0, c1] := by
    match l, hs with
    | [c0, c1], _ => exact ⟨c0, c1, rfl⟩
  obtain ⟨fuel, hf⟩ := h
  obtain ⟨xs, m, rfl, hx, _, hl, hi⟩ := DataW.trod_array Try.underlying50 hf
  rw [cells3] at hi
  have e0 := hi 0 (by omega)
  have e1 := hi 1 (by omega)
  simp only [Value.cells, List.drop, List.take, Nat.one_mul] at e0 e1
  obtain ⟨y0, y1, rfl⟩ : ∃ y0 y1, xs = [y0, y1] := by
    match xs, hl with
    | [y0, y1], _ => exact ⟨y0, y1, rfl⟩
  obtain ⟨x, ex, rfl, w0⟩ := DataW.trod_int Try.underlying3 e0
  obtain ⟨y, ey, rfl, w1⟩ := DataW.trod_int Try.underlying3 e1
  cases ex
  cases ey
  refine ⟨x, y, rfl, ?_, w0, w1⟩
  simpa using (congrArg Prod.snd hx)

/-- Calls that came in, with their texts' sizes. -/
theorem openO {H : Type} {enc : TypeId × Value → H} {W : World} {a : Option Addr} {len cap : Nat} {d : DataW H} {p : List MemPlace}
    (h : DataW.Trod enc Try.prog W 0 (fun _ => true) true 22 (.slice a len cap) d p) (hz : ∀ n ∈ d.weights Try.prog 22, n ≤ reachBytes) :
    ∃ os : List Call, os.length = len ∧ len ≤ cap ∧ cap ≤ 9223372036854775807 ∧ (∀ o ∈ os, Wf64 o.1 ∧ Wf64 o.2.1 ∧ Wf64 o.2.2.1 ∧ o.2.2.2.size ≤ 140737488351232) ∧ (a = none → cap = 0) ∧ OpsIn W a len os := by
  obtain ⟨fuel, hf⟩ := h
  rcases Go.Deep.open_slice Try.underlying22 hf with ⟨hcs, hx⟩ | ⟨a', len', cap', m, n, D, Pl, hcs, _, hl, hm, hmm, hx, hcell⟩
  · simp [Value.cells] at hcs
    obtain ⟨rfl, rfl, rfl⟩ := hcs
    exact ⟨[], rfl, Nat.le_refl _, by omega, (fun _ h => by cases h), (fun _ => rfl), (fun h => absurd h (by omega))⟩
  · simp [Value.cells] at hcs
    obtain ⟨rfl, rfl, rfl⟩ := hcs
    simp only [if_true] at hmm
    simp only [Prod.mk.injEq] at hx
    unfold maxLen at hm
    rw [cellsOp] at hcell
    have each : ∀ i, i < len → ∃ o : Call, W.cell? (a'.add (i * 4)) = some (.int .i64 o.1) ∧ W.cell? ((a'.add (i * 4)).add 1) = some (.int .i64 o.2.1) ∧ W.cell? ((a'.add (i * 4)).add 2) = some (.int .i64 o.2.2.1) ∧ W.cell? ((a'.add (i * 4)).add 3) = some (.string o.2.2.2) ∧
        (Lit.int .i64 o.1).wf = true ∧ (Lit.int .i64 o.2.1).wf = true ∧ (Lit.int .i64 o.2.2.1).wf = true ∧ o.2.2.2.size ≤ 140737488351232 := by
      intro i hi
      obtain ⟨cs', h1, h2⟩ := hcell i (by omega)
      obtain ⟨_, hlen, hc⟩ := World.cells?_some h1
      obtain ⟨xs, k, _, hxy, _, hxl, hf'⟩ := DataW.trod_struct Try.underlying31 h2
      match xs, hxl, cs', hlen with
      | [y0, y1, y2, y3], _, [v0, v1, v2, v3], _ =>
        have g0 := hf' 0 _ rfl
        have g1 := hf' 1 _ rfl
        have g2 := hf' 2 _ rfl
        have g3 := hf' 3 _ rfl
        simp [cells3, cells9] at g0 g1 g2 g3
        obtain ⟨z0, e0, _, f0⟩ := DataW.trod_int Try.underlying3 g0
        obtain ⟨z1, e1, _, f1⟩ := DataW.trod_int Try.underlying3 g1
        obtain ⟨z2, e2, _, f2⟩ := DataW.trod_int Try.underlying3 g2
        obtain ⟨s3, e3, hd3, _⟩ := DataW.trod_string Try.underlying9 g3
        simp only [List.cons.injEq, and_true] at e0 e1 e2 e3
        have c0 := hc 0 (by omega)
        have c1 := hc 1 (by omega)
        have c2 := hc 2 (by omega)
        have c3 := hc 3 (by omega)
        simp only [List.getElem?_cons_zero, List.getElem?_cons_succ, e0, e1, e2, e3] at c0 c1 c2 c3
        refine ⟨(z0, z1, z2, s3), by rw [← c0]; simp [Addr.add], c1, c2, c3, f0, f1, f2, ?_⟩
        have hw : s3.data.toList.length ∈ d.weights Try.prog 22 := by
          rw [hx.1]
          simp only [DataW.weights, Try.underlying22]
          refine List.mem_cons_of_mem _ (List.mem_append_left _ ?_)
          refine mem_all (D i) (List.mem_map.mpr ⟨i, List.mem_range.mpr hi, rfl⟩) ?_
          simp only [Prod.mk.injEq] at hxy
          rw [hxy.1]
          simp only [DataW.weights, Try.underlying31, List.map_cons, List.map_nil]
          refine DataW.weights_mem_each (j := 3) rfl rfl _ ?_
          rw [hd3]
          simp [DataW.weights]
        have := hz _ hw
        simp only [reachBytes, Array.length_toList] at this
        exact this
    obtain ⟨f, hfe⟩ := Go.Deep.choose_lt each
    refine ⟨(List.range len).map f, by simp, by omega, by omega, fun x hx' => ?_, (fun h => by cases h), fun hn => ?_⟩
    · obtain ⟨i, hi, rfl⟩ := List.mem_map.mp hx'
      have := hfe i (List.mem_range.mp hi)
      exact ⟨range64 this.2.2.2.2.1, range64 this.2.2.2.2.2.1, range64 this.2.2.2.2.2.2.1, this.2.2.2.2.2.2.2⟩
    · obtain ⟨b, o, s⟩ := a'
      obtain rfl : s = none := by simpa [Addr.add] using World.cell?_spot (hfe 0 (by omega)).1
      refine ⟨b, o, rfl, fun i hi => ?_⟩
      obtain ⟨h0, h1, h2, h3, _⟩ := hfe i hi
      rw [add_plain] at h0 h1 h2 h3
      rw [add_plain] at h1 h2 h3
      rw [← Nat.add_assoc, ← Nat.add_assoc, ← Nat.add_assoc, h0, h1, h2, h3]
      simp [List.getD, hi]
end Go.Proofs.Ytmblgpejgdlakaa

/-
  What the rows of this seat share: proxies that came in. Conditions: none.
-/
import Derived.Test.YtmghkcjljnlocaaGreatDoorR
namespace Go.Proofs.YtmghkcjljnlocaaGreatDoor
open Go.ChangeShapes Go.WideShapes Go.ChangeAt Go.RowKit

instance : Inhabited Tox := ⟨noTox⟩
instance : Inhabited Prx := ⟨noPrx⟩
theorem cellsTS : Tryz.prog.cellsOf 35 = 1 := by kernel_rfl
theorem cellsPrx : Tryz.prog.cellsOf 37 = 4 := by kernel_rfl
set_option maxRecDepth 100000 in
/-- A toxic's cells, as they came in. -/
theorem tox_in {H : Type} {enc : TypeId × Value → H} {W : World} {fuel : Nat} {c0 c1 c2 c3 c4 c5 : Value} {y : DataW H × List MemPlace}
    (hf : DataW.trod enc Tryz.prog W 0 (fun _ => true) true fuel 24 [c0, c1, c2, c3, c4, c5] = some y) :
    ∃ t : Tox, c0 = .string t.s ∧ c1 = .int .i64 t.k ∧ c2 = .bool t.up ∧ c3 = .int .i64 t.o ∧ c4 = .int .i64 t.a ∧ c5 = .int .i64 t.b ∧ t.s.size ≤ maxLen := by
  obtain ⟨xs, m, hy, hx, _, hl, hi⟩ := DataW.trod_struct Tryz.underlying24 hf
  obtain ⟨y0, y1, y2, y3, y4, y5, rfl⟩ : ∃ y0 y1 y2 y3 y4 y5, xs = [y0, y1, y2, y3, y4, y5] := by
    match xs, hl with
    | [y0, y1, y2, y3, y4, y5], _ => exact ⟨y0, y1, y2, y3, y4, y5, rfl⟩
  have e0 := hi 0 _ rfl
  have e1 := hi 1 _ rfl
  have e2 := hi 2 _ rfl
  have e3 := hi 3 _ rfl
  have e4 := hi 4 _ rfl
  have e5 := hi 5 _ rfl
  simp [cellsInt, cellsStr, cellsBool] at e0 e1 e2 e3 e4 e5
  obtain ⟨x0, q0, rfl, w0⟩ := DataW.trod_string Tryz.underlying9 e0
  obtain ⟨x1, q1, rfl, w1⟩ := DataW.trod_int Tryz.underlying3 e1
  obtain ⟨x2, q2, rfl⟩ := DataW.trod_bool Tryz.underlying4 e2
  obtain ⟨x3, q3, rfl, w3⟩ := DataW.trod_int Tryz.underlying3 e3
  obtain ⟨x4, q4, rfl, w4⟩ := DataW.trod_int Tryz.underlying3 e4
  obtain ⟨x5, q5, rfl, w5⟩ := DataW.trod_int Tryz.underlying3 e5
  cases q0
  cases q1
  cases q2
  cases q3
  cases q4
  cases q5
  exact ⟨⟨x0, x1, x2, x3, x4, x5⟩, rfl, rfl, rfl, rfl, rfl, rfl, w0⟩
set_option maxRecDepth 100000 in
/-- Toxics that came in. -/
theorem tox_slice {H : Type} {enc : TypeId × Value → H} {W : World} {fuel : Nat} {cs : List Value} {x : DataW H × List MemPlace}
    (hf : DataW.trod enc Tryz.prog W 0 (fun _ => true) true fuel 35 cs = some x) :
    ∃ (pl : Option Addr) (nl dl : Nat) (l : List Tox), cs = [.slice pl nl dl] ∧ l.length = nl ∧ nl ≤ dl ∧ dl ≤ maxLen ∧ (∀ t ∈ l, t.s.size ≤ maxLen) ∧ ToxIn W pl nl l := by
  rcases Go.Deep.open_slice Tryz.underlying35 hf with ⟨rfl, _⟩ | ⟨a, len, cap, m, n, D, Pl, rfl, _, hl, hm, hmm, hx, hcell⟩
  · exact ⟨none, 0, 0, [], rfl, rfl, Nat.le_refl _, Nat.zero_le _, (fun _ h => by cases h), fun h => absurd h (Nat.lt_irrefl _)⟩
  · simp only [if_true] at hmm
    rw [cellsTox] at hcell
    have each : ∀ i, i < len → ∃ t : Tox, W.cell? (a.add (i * 6)) = some (.string t.s) ∧ W.cell? ((a.add (i * 6)).add 1) = some (.int .i64 t.k) ∧ W.cell? ((a.add (i * 6)).add 2) = some (.bool t.up) ∧ W.cell? ((a.add (i * 6)).add 3) = some (.int .i64 t.o) ∧ W.cell? ((a.add (i * 6)).add 4) = some (.int .i64 t.a) ∧ W.cell? ((a.add (i * 6)).add 5) = some (.int .i64 t.b) ∧ t.s.size ≤ maxLen := by
      intro i hi
      obtain ⟨cs', h1, h2⟩ := hcell i (by omega)
      obtain ⟨_, hlen, hc⟩ := World.cells?_some h1
      match cs', hlen with
      | [v0, v1, v2, v3, v4, v5], _ =>
        obtain ⟨t, t0, t1, t2, t3, t4, t5, tw⟩ := tox_in h2
        have c0 := hc 0 (by omega)
        have c1 := hc 1 (by omega)
        have c2 := hc 2 (by omega)
        have c3 := hc 3 (by omega)
        have c4 := hc 4 (by omega)
        have c5 := hc 5 (by omega)
        simp only [List.getElem?_cons_zero, List.getElem?_cons_succ, t0, t1, t2, t3, t4, t5] at c0 c1 c2 c3 c4 c5
        exact ⟨t, by rw [← c0]; simp [Addr.add], c1, c2, c3, c4, c5, tw⟩
    obtain ⟨f, hfe⟩ := Go.Deep.choose_lt each
    refine ⟨some a, len, cap, (List.range len).map f, rfl, by simp, by omega, by omega, fun x hx' => ?_, fun hn => ?_⟩
    · obtain ⟨i, hi, rfl⟩ := List.mem_map.mp hx'
      exact (hfe i (List.mem_range.mp hi)).2.2.2.2.2.2
    · obtain ⟨b, o, s⟩ := a
      have hs : s = none := by simpa [Addr.add] using World.cell?_spot (hfe 0 hn).1
      subst hs
      refine ⟨b, o, rfl, fun i hi => ?_⟩
      have hi' : i < len := hi
      obtain ⟨h0, h1, h2, h3, h4, h5, _⟩ := hfe i hi'
      rw [show ((List.range len).map f).getD i noTox = f i from by rw [getD_at _ _ (by simpa using hi'), List.getElem_map, List.getElem_range]]
      simp only [WideShapes.add_plain, Nat.add_assoc] at h0 h1 h2 h3 h4 h5
      exact ⟨h0, h1, h2, h3, h4, h5⟩
/-- How long what came in may be. -/
def Long14 (x : Prx) : Prop := x.s.size ≤ maxLen ∧ x.ts.length ≤ maxLen ∧ ∀ t ∈ x.ts, t.s.size ≤ maxLen
set_option maxRecDepth 100000 in
/-- A proxy's cells, as they came in. -/
theorem prx_in {H : Type} {enc : TypeId × Value → H} {W : World} {fuel : Nat} {c0 c1 c2 c3 : Value} {y : DataW H × List MemPlace}
    (hf : DataW.trod enc Tryz.prog W 0 (fun _ => true) true fuel 37 [c0, c1, c2, c3] = some y) :
    ∃ (x : Prx) (q : Option Addr) (m d : Nat), c0 = .string x.s ∧ c1 = .bool x.on ∧ c2 = .int .i64 x.most ∧ c3 = .slice q m d ∧ x.ts.length = m ∧ m ≤ d ∧ d ≤ maxLen ∧ ToxIn W q m x.ts ∧ Long14 x := by
  obtain ⟨xs, m, hy, hx, _, hl, hi⟩ := DataW.trod_struct Tryz.underlying37 hf
  obtain ⟨y0, y1, y2, y3, rfl⟩ : ∃ y0 y1 y2 y3, xs = [y0, y1, y2, y3] := by
    match xs, hl with
    | [y0, y1, y2, y3], _ => exact ⟨y0, y1, y2, y3, rfl⟩
  have e0 := hi 0 _ rfl
  have e1 := hi 1 _ rfl
  have e2 := hi 2 _ rfl
  have e3 := hi 3 _ rfl
  simp [cellsInt, cellsStr, cellsBool, cellsTS] at e0 e1 e2 e3
  obtain ⟨x0, q0, rfl, w0⟩ := DataW.trod_string Tryz.underlying9 e0
  obtain ⟨x1, q1, rfl⟩ := DataW.trod_bool Tryz.underlying4 e1
  obtain ⟨x2, q2, rfl, w2⟩ := DataW.trod_int Tryz.underlying3 e2
  obtain ⟨pl, nl, dl, l, hcs, h1, h2, h3, h4, h5⟩ := tox_slice e3
  cases q0
  cases q1
  cases q2
  simp only [List.cons.injEq, and_true] at hcs
  exact ⟨⟨x0, x1, x2, l⟩, pl, nl, dl, rfl, rfl, rfl, hcs, h1, h2, h3, h5, w0, (show l.length ≤ maxLen by omega), h4⟩
set_option maxRecDepth 100000 in
/-- Proxies that came in. -/
theorem openPs {H : Type} {enc : TypeId × Value → H} {W : World} {a : Option Addr} {len cap : Nat} {d : DataW H} {p : List MemPlace}
    (h : DataW.Trod enc Tryz.prog W 0 (fun _ => true) true 22 (.slice a len cap) d p) :
    ∃ l : List Prx, l.length = len ∧ len ≤ cap ∧ cap ≤ maxLen ∧ (∀ x ∈ l, Long14 x) ∧ PrxIn W a len l := by
  obtain ⟨fuel, hf⟩ := h
  rcases Go.Deep.open_slice Tryz.underlying22 hf with ⟨hcs, hx⟩ | ⟨a', len', cap', m, n, D, Pl, hcs, _, hl, hm, hmm, hx, hcell⟩
  · simp [Value.cells] at hcs
    obtain ⟨rfl, rfl, rfl⟩ := hcs
    exact ⟨[], rfl, Nat.le_refl _, Nat.zero_le _, (fun _ h => by cases h), (fun h => absurd h (by omega))⟩
  · simp [Value.cells] at hcs
    obtain ⟨rfl, rfl, rfl⟩ := hcs
    simp only [if_true] at hmm
    rw [cellsPrx] at hcell
    have each : ∀ i, i < len → ∃ x : Prx, ∃ (q : Option Addr) (m d : Nat), W.cell? (a'.add (i * 4)) = some (.string x.s) ∧ W.cell? ((a'.add (i * 4)).add 1) = some (.bool x.on) ∧ W.cell? ((a'.add (i * 4)).add 2) = some (.int .i64 x.most) ∧ W.cell? ((a'.add (i * 4)).add 3) = some (.slice q m d) ∧ m ≤ d ∧ x.ts.length = m ∧ ToxIn W q m x.ts ∧ Long14 x := by
      intro i hi
      obtain ⟨cs', h1, h2⟩ := hcell i (by omega)
      obtain ⟨_, hlen, hc⟩ := World.cells?_some h1
      match cs', hlen with
      | [v0, v1, v2, v3], _ =>
        obtain ⟨x, q, m, d, t0, t1, t2, t3, t4, t5, _, t6, t7⟩ := prx_in h2
        have c0 := hc 0 (by omega)
        have c1 := hc 1 (by omega)
        have c2 := hc 2 (by omega)
        have c3 := hc 3 (by omega)
        simp only [List.getElem?_cons_zero, List.getElem?_cons_succ, t0, t1, t2, t3] at c0 c1 c2 c3
        exact ⟨x, q, m, d, by rw [← c0]; simp [Addr.add], c1, c2, c3, t5, t4, t6, t7⟩
    obtain ⟨f, hfe⟩ := Go.Deep.choose_lt each
    refine ⟨(List.range len).map f, by simp, by omega, by omega, fun x hx' => ?_, fun hn => ?_⟩
    · obtain ⟨i, hi, rfl⟩ := List.mem_map.mp hx'
      obtain ⟨_, _, _, _, _, _, _, _, _, _, h⟩ := hfe i (List.mem_range.mp hi)
      exact h
    · obtain ⟨b, o, s⟩ := a'
      have hs : s = none := by
        obtain ⟨_, _, _, h, _⟩ := hfe 0 hn
        simpa [Addr.add] using World.cell?_spot h
      subst hs
      refine ⟨b, o, rfl, fun i hi => ?_⟩
      have hi' : i < len := hi
      obtain ⟨q, m, d, h0, h1, h2, h3, h4, h5, h6, _⟩ := hfe i hi'
      rw [show ((List.range len).map f).getD i noPrx = f i from by rw [getD_at _ _ (by simpa using hi'), List.getElem_map, List.getElem_range]]
      simp only [WideShapes.add_plain, Nat.add_assoc] at h0 h1 h2 h3
      exact ⟨h0, h1, h2, q, m, d, h3, h4, h5, h6⟩
end Go.Proofs.YtmghkcjljnlocaaGreatDoor

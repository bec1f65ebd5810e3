/-
  Rows of toxics and of proxies that are a call's own. Conditions: none.
-/
import Derived.Test.YtmghkcjljnlocaaGreatDoorNE
import Derived.Test.YtmghkcjljnlocaaGreatDoorCB
namespace Go.Proofs.YtmghkcjljnlocaaGreatDoor
open Go.RowKit

abbrev TT : TypeId := 24
abbrev TP : TypeId := 37
def Tox.cells (t : Tox) : List Value := [.string t.s, .int .i64 t.k, .bool t.up, .int .i64 t.o, .int .i64 t.a, .int .i64 t.b]
def flatT (l : List Tox) : List Value := l.flatMap Tox.cells
/-- A proxy as it lies in memory: its toxics' slice besides. -/
structure RP where
  x : Prx
  q : Option Addr
  m : Nat
  d : Nat
def noRP : RP := ⟨noPrx, none, 0, 0⟩
def RP.cells (z : RP) : List Value := [.string z.x.s, .bool z.x.on, .int .i64 z.x.most, .slice z.q z.m z.d]
def flatP (l : List RP) : List Value := l.flatMap RP.cells
section
variable {α : Type} {f : α → List Value} {K : Nat} (hK : ∀ x, (f x).length = K)
include hK
theorem flat_len (l : List α) : (l.flatMap f).length = l.length * K := by
  induction l with
  | nil => simp
  | cons a r ih => rw [List.flatMap_cons, List.length_append, hK, ih, List.length_cons, Nat.add_mul, Nat.one_mul, Nat.add_comm]
theorem flat_take (l : List α) (k : Nat) : (l.flatMap f).take (k * K) = (l.take k).flatMap f := by
  induction l generalizing k with
  | nil => simp
  | cons a r ih =>
    cases k with
    | zero => simp
    | succ k =>
      rw [List.flatMap_cons, List.take_succ_cons, List.flatMap_cons, ← ih, Nat.add_mul, Nat.one_mul, Nat.add_comm, List.take_append, hK, List.take_of_length_le (by rw [hK]; omega), show K + k * K - K = k * K by omega]
theorem flat_drop (l : List α) (k : Nat) : (l.flatMap f).drop (k * K) = (l.drop k).flatMap f := by
  induction l generalizing k with
  | nil => simp
  | cons a r ih =>
    cases k with
    | zero => simp
    | succ k =>
      rw [List.flatMap_cons, List.drop_succ_cons, ← ih, Nat.add_mul, Nat.one_mul, Nat.add_comm, List.drop_append, hK, List.drop_of_length_le (by rw [hK]; omega), show K + k * K - K = k * K by omega, List.nil_append]
theorem flat_get (l : List α) (i : Nat) (hi : i < l.length) (j : Nat) (hj : j < K) : (l.flatMap f)[i * K + j]? = (f l[i])[j]? := by
  rw [← List.getElem?_drop, flat_drop hK, List.drop_eq_getElem_cons hi, List.flatMap_cons, List.getElem?_append_left (by rw [hK]; exact hj)]
end
theorem tc_len (t : Tox) : t.cells.length = 6 := rfl
theorem pc_len (z : RP) : z.cells.length = 4 := rfl
theorem flatT_len (l : List Tox) : (flatT l).length = l.length * 6 := flat_len tc_len l
theorem flatP_len (l : List RP) : (flatP l).length = l.length * 4 := flat_len pc_len l
theorem flatT_one (l : List Tox) : ∀ v ∈ flatT l, v.oneCell' = true := fun v hv => by
  obtain ⟨t, _, ht⟩ := List.mem_flatMap.1 hv
  simp only [Tox.cells, List.mem_cons, List.not_mem_nil, or_false] at ht
  rcases ht with rfl | rfl | rfl | rfl | rfl | rfl <;> rfl
theorem flatP_one (l : List RP) : ∀ v ∈ flatP l, v.oneCell' = true := fun v hv => by
  obtain ⟨t, _, ht⟩ := List.mem_flatMap.1 hv
  simp only [RP.cells, List.mem_cons, List.not_mem_nil, or_false] at ht
  rcases ht with rfl | rfl | rfl | rfl <;> rfl
theorem getD_at {α : Type} (l : List α) (z : α) {i : Nat} (h : i < l.length) : l.getD i z = l[i] := by rw [List.getD_eq_getElem?_getD, List.getElem?_eq_getElem h]; rfl
/-- A toxics' row of the call's own. -/
def TRow (w : World) (base : Nat) (q : Option Addr) (m d : Nat) (l : List Tox) : Prop := gc.ORow w base TT 6 q m d (flatT l)
theorem TRow.len {w : World} {base m d : Nat} {q : Option Addr} {l : List Tox} (h : TRow w base q m d l) : l.length = m := by
  have := gc.ORow.len h
  rw [flatT_len] at this
  omega
theorem TRow.tox {w : World} {base m d : Nat} {q : Option Addr} {l : List Tox} (h : TRow w base q m d l) : ToxIn w q m l := fun hn => by
  have hl := h.len
  obtain ⟨b, o, e, hc⟩ := gc.ORow.at h hn
  refine ⟨b, o, e, fun i hi => ?_⟩
  have key : ∀ j, j < 6 → ∀ v, (l[i]'(by omega)).cells[j]? = some v → w.cell? ⟨b, o + (i * 6 + j), none⟩ = some v := fun j hj v hv => hc (i * 6 + j) v (by unfold flatT; rw [flat_get tc_len l i (by omega) j hj]; exact hv)
  rw [getD_at l noTox (by omega)]
  exact ⟨key 0 (by decide) _ rfl, key 1 (by decide) _ rfl, key 2 (by decide) _ rfl, key 3 (by decide) _ rfl, key 4 (by decide) _ rfl, key 5 (by decide) _ rfl⟩
/-- Proxies in a row of the call's own, and their toxics. -/
structure PRow (w : World) (base : Nat) (p : Option Addr) (n c : Nat) (zs : List RP) : Prop where
  row : gc.ORow w base TP 4 p n c (flatP zs)
  tox : ∀ z ∈ zs, TRow w base z.q z.m z.d z.x.ts
section
variable {w w' : World} {base n c : Nat} {p : Option Addr} {zs : List RP}
theorem PRow.len (h : PRow w base p n c zs) : zs.length = n := by
  have := h.row.len
  rw [flatP_len] at this
  omega
theorem PRow.cells (h : PRow w base p n c zs) (hn : 0 < n) : ∃ b o, p = some ⟨b, o, none⟩ ∧ ∀ i, i < n → w.cell? ⟨b, o + i * 4, none⟩ = some (.string (zs.getD i noRP).x.s) ∧ w.cell? ⟨b, o + (i * 4 + 1), none⟩ = some (.bool (zs.getD i noRP).x.on) ∧ w.cell? ⟨b, o + (i * 4 + 2), none⟩ = some (.int .i64 (zs.getD i noRP).x.most) ∧ w.cell? ⟨b, o + (i * 4 + 3), none⟩ = some (.slice (zs.getD i noRP).q (zs.getD i noRP).m (zs.getD i noRP).d) := by
  have hl := h.len
  obtain ⟨b, o, e, hc⟩ := h.row.at hn
  refine ⟨b, o, e, fun i hi => ?_⟩
  have key : ∀ j, j < 4 → ∀ v, (zs[i]'(by omega)).cells[j]? = some v → w.cell? ⟨b, o + (i * 4 + j), none⟩ = some v := fun j hj v hv => hc (i * 4 + j) v (by unfold flatP; rw [flat_get pc_len zs i (by omega) j hj]; exact hv)
  rw [getD_at zs noRP (by omega)]
  exact ⟨key 0 (by decide) _ rfl, key 1 (by decide) _ rfl, key 2 (by decide) _ rfl, key 3 (by decide) _ rfl⟩
theorem PRow.mem (h : PRow w base p n c zs) {i : Nat} (hi : i < n) : zs.getD i noRP ∈ zs := by
  have := h.len
  rw [getD_at zs noRP (by omega)]
  exact List.getElem_mem _
theorem PRow.prx (h : PRow w base p n c zs) : PrxIn w p n (zs.map (·.x)) := fun hn => by
  have hl := h.len
  obtain ⟨b, o, e, hc⟩ := h.cells hn
  refine ⟨b, o, e, fun i hi => ?_⟩
  have e2 : (zs.map (·.x)).getD i noPrx = (zs.getD i noRP).x := by
    rw [getD_at _ noPrx (by rw [List.length_map]; omega), getD_at zs noRP (by omega), List.getElem_map]
  obtain ⟨h0, h1, h2, h3⟩ := hc i hi
  have ht := h.tox _ (h.mem hi)
  rw [e2]
  exact ⟨h0, h1, h2, _, _, _, h3, gc.ORow.cap ht, ht.len, ht.tox⟩
theorem PRow.on (h : PRow w base p n c zs) (hb : Below w.heap.size w w') : PRow w' base p n c zs := ⟨h.row.on hb, fun z hz => gc.ORow.on (h.tox z hz) hb⟩
theorem prow_nil (w : World) (base : Nat) : PRow w base none 0 0 [] := ⟨gc.orow_nil _ _ _ _, fun _ h => by cases h⟩
end
/-- No two of them have their toxics in one block. -/
def Dis (zs : List RP) : Prop := zs.Pairwise fun y z => ∀ a a', y.q = some a → z.q = some a' → a.block ≠ a'.block
theorem dis_perm {zs zs' : List RP} (h : Dis zs) (hp : zs'.Perm zs) : Dis zs' := (hp.pairwise_iff (fun h a a' e e' => (h a' a e' e).symm)).2 h
theorem dis_app {zs : List RP} {z : RP} (h : Dis zs) (hz : ∀ y ∈ zs, ∀ a a', y.q = some a → z.q = some a' → a.block ≠ a'.block) : Dis (zs ++ [z]) := by
  unfold Dis
  rw [List.pairwise_append]
  refine ⟨h, List.pairwise_singleton _ _, fun y hy x hx => ?_⟩
  rw [List.mem_singleton.1 hx]
  exact hz y hy
/-- .. and what is told of it: proxies, all of the call's own. -/
def POwn (w : World) (base : Nat) (p : Option Addr) (n c : Nat) (l : List Prx) : Prop := ∃ zs : List RP, zs.map (·.x) = l ∧ PRow w base p n c zs ∧ Dis zs
section
variable {w w' : World} {base n c : Nat} {p : Option Addr} {l : List Prx}
theorem POwn.len (h : POwn w base p n c l) : l.length = n := by
  obtain ⟨zs, rfl, h, _⟩ := h
  rw [List.length_map]
  exact h.len
theorem POwn.cap (h : POwn w base p n c l) : n ≤ c := by
  obtain ⟨zs, rfl, h, _⟩ := h
  exact h.row.cap
theorem POwn.prx (h : POwn w base p n c l) : PrxIn w p n l := by
  obtain ⟨zs, rfl, h, _⟩ := h
  exact h.prx
theorem POwn.on (h : POwn w base p n c l) (hb : Below w.heap.size w w') : POwn w' base p n c l := by
  obtain ⟨zs, rfl, h, hd⟩ := h
  exact ⟨zs, rfl, h.on hb, hd⟩
theorem pown_nil (w : World) (base : Nat) : POwn w base none 0 0 [] := ⟨[], rfl, prow_nil w base, List.Pairwise.nil⟩
end
end Go.Proofs.YtmghkcjljnlocaaGreatDoor

/-
  Rows of the call's own: a cell, or an element, is stored; one more element. Conditions: as each states.
-/
import Derived.Test.YtmghkcjljnlocaaGreatDoorPA
namespace Go.Proofs.YtmghkcjljnlocaaGreatDoor
open Go.RowKit

section
variable {w w' : World} {base T K n c b o : Nat} {zs : List Value}
theorem orow_same {cur : Array Value} (h : gc.ORow w base T K (some ⟨b, o, none⟩) n c zs) {zs' : List Value} (hl : zs'.length = zs.length) (hb : w'.heap[b]? = some (.cells cur T (0, 0))) (hs : ∀ cur0, w.heap[b]? = some (.cells cur0 T (0, 0)) → cur.size = cur0.size) (hc : ∀ j v, zs'[j]? = some v → cur[o + j]? = some v) :
    gc.ORow w' base T K (some ⟨b, o, none⟩) n c zs' := by
  refine ⟨hl.trans h.len, h.cap, h.max, (fun e => by cases e), fun a e => ?_⟩
  obtain ⟨b', o', cur0, e', hb0, hh, hsz, _⟩ := h.som a e
  cases e
  cases e'
  exact ⟨b, o, cur, rfl, hb0, hb, by rw [hs cur0 hh]; exact hsz, hc⟩
/-- A cell is stored. -/
theorem orow_one (h : gc.ORow w base T K (some ⟨b, o, none⟩) n c zs) {i : Nat} (v : Value) : gc.ORow (w.setCell ⟨b, o + i, none⟩ v) base T K (some ⟨b, o, none⟩) n c (zs.set i v) := by
  obtain ⟨b', o', cur, e', hb0, hh, hsz, hcur⟩ := h.som _ rfl
  cases e'
  refine orow_same h (by simp) (gc.set_heap hh v) (fun cur0 h0 => by rw [hh] at h0; cases h0; simp) fun j u hj => ?_
  have hjl := (List.getElem?_eq_some_iff.1 hj).1
  rw [List.length_set, h.len] at hjl
  have h1 : n * K ≤ c * K := Nat.mul_le_mul_right K h.cap
  rw [Array.getElem?_setIfInBounds]
  rw [List.getElem?_set] at hj
  by_cases e : i = j
  · subst e
    rw [if_pos rfl, if_pos (by rw [h.len]; exact hjl)] at hj
    rw [if_pos rfl, if_pos (by omega)]
    exact hj
  · rw [if_neg e] at hj
    rw [if_neg (by omega)]
    exact hcur j u hj
/-- A run of cells is stored. -/
theorem orow_run (h : gc.ORow w base T K (some ⟨b, o, none⟩) n c zs) {i : Nat} {vs : List Value} (hi : i + vs.length ≤ n * K) : gc.ORow (w.setCells b (o + i) vs) base T K (some ⟨b, o, none⟩) n c (zs.take i ++ vs ++ zs.drop (i + vs.length)) := by
  obtain ⟨b', o', cur, e', hb0, hh, hsz, hcur⟩ := h.som _ rfl
  cases e'
  obtain ⟨cur', hb', hs'⟩ := gc.setCells_blk vs (o + i) w cur hh
  have hlz := h.len
  have h1 : n * K ≤ c * K := Nat.mul_le_mul_right K h.cap
  refine orow_same h (by rw [List.length_append, List.length_append, List.length_take, List.length_drop]; omega) hb' (fun cur0 h0 => by rw [hh] at h0; cases h0; exact hs') fun j u hj => ?_
  have key : (w.setCells b (o + i) vs).cell? ⟨b, o + j, none⟩ = some u := by
    have hcell : ∀ t, t < vs.length → (w.cell? ⟨b, o + i + t, none⟩).isSome = true := fun t ht => by
      simp only [World.cell?, hh]
      rw [Array.getElem?_eq_getElem (by omega)]
      rfl
    have ht : (zs.take i).length = i := by rw [List.length_take]; omega
    by_cases h1 : j < i
    · rw [World.cell?_setCells_out _ _ _ _ _ (fun _ _ => Or.inl (by show o + j < o + i; omega))]
      rw [List.append_assoc, List.getElem?_append_left (by omega), List.getElem?_take_of_lt h1] at hj
      simp only [World.cell?, hh]
      exact hcur j u hj
    · by_cases h2 : j < i + vs.length
      · rw [List.append_assoc, List.getElem?_append_right (by omega), ht, List.getElem?_append_left (by omega)] at hj
        have := World.cell?_setCells_in b vs (o + i) w hcell (j - i) (by omega)
        rw [show o + i + (j - i) = o + j by omega] at this
        rw [this, ← hj, List.getElem?_eq_getElem (by omega)]
      · rw [World.cell?_setCells_out _ _ _ _ _ (fun _ _ => Or.inr (by show o + i + vs.length ≤ o + j; omega))]
        rw [List.getElem?_append_right (by rw [List.length_append]; omega), List.length_append, ht, List.getElem?_drop, show i + vs.length + (j - (i + vs.length)) = j by omega] at hj
        simp only [World.cell?, hh]
        exact hcur j u hj
  simp only [World.cell?, hb'] at key
  exact key
theorem orow_ne {b2 : Nat} {p : Option Addr} {zs' : List Value} {T' K' n' c' : Nat} (h : gc.ORow w base T' K' p n' c' zs') (hT : T' ≠ T) {cur : Array Value} (hb : w.heap[b2]? = some (.cells cur T (0, 0))) : ∀ a, p = some a → a.block ≠ b2 := fun a e e' => by
  obtain ⟨cu, hh⟩ := h.typed a e
  rw [e', hb] at hh
  injection hh with hh
  injection hh with _ hT2
  exact hT hT2.symm
end
section
variable {α : Type} {f : α → List Value} {K : Nat} (hK : ∀ x, (f x).length = K)
include hK
theorem flat_set (l : List α) (i : Nat) (hi : i < l.length) (x : α) : (l.set i x).flatMap f = (l.flatMap f).take (i * K) ++ f x ++ (l.flatMap f).drop (i * K + (f x).length) := by
  rw [List.set_eq_take_append_cons_drop, if_pos hi, flat_take hK, hK, show i * K + K = (i + 1) * K by rw [Nat.add_mul, Nat.one_mul], flat_drop hK, List.flatMap_append, List.flatMap_cons, List.append_assoc]
theorem flat_set1 (l : List α) (i : Nat) (hi : i < l.length) (j : Nat) (hj : j < K) (x : α) (v : Value) (h : f x = (f l[i]).set j v) : (l.set i x).flatMap f = (l.flatMap f).set (i * K + j) v := by
  induction l generalizing i with
  | nil => cases hi
  | cons a r ih =>
    cases i with
    | zero =>
      have h : f x = (f a).set j v := h
      rw [List.set_cons_zero, List.flatMap_cons, List.flatMap_cons, h, Nat.zero_mul, Nat.zero_add, List.set_append, if_pos (by rw [hK]; exact hj)]
    | succ i =>
      rw [List.set_cons_succ, List.flatMap_cons, List.flatMap_cons, ih i (by simpa using hi) h, List.set_append, if_neg (by rw [hK, Nat.add_mul]; omega), hK, show (i + 1) * K + j - K = i * K + j by rw [Nat.add_mul]; omega]
end
section
variable {w w' : World} {base n c b o : Nat} {zs : List RP}
theorem PRow.blk {p : Option Addr} (h : PRow w base p n c zs) (hn : 0 < n) : ∃ b o cur, p = some ⟨b, o, none⟩ ∧ base ≤ b ∧ w.heap[b]? = some (.cells cur TP (0, 0)) ∧ o + c * 4 ≤ cur.size := by
  cases p with
  | none => have := h.row.non rfl; have := h.row.cap; omega
  | some a =>
    obtain ⟨b, o, cur, rfl, hb, hh, hs, _⟩ := h.row.som a rfl
    exact ⟨b, o, cur, rfl, hb, hh, hs⟩
/-- An element is stored. -/
theorem PRow.set (h : PRow w base (some ⟨b, o, none⟩) n c zs) {i : Nat} (hi : i < n) (z : RP) (hz : TRow w base z.q z.m z.d z.x.ts) : PRow (w.setCells b (o + i * 4) z.cells) base (some ⟨b, o, none⟩) n c (zs.set i z) := by
  have hl := h.len
  obtain ⟨b', o', cur, e', _, hh, _⟩ := h.row.som _ rfl
  cases e'
  have hg := gc.setCells_grown w b (o + i * 4) z.cells
  have hk : ∀ y : RP, TRow w base y.q y.m y.d y.x.ts → TRow (w.setCells b (o + i * 4) z.cells) base y.q y.m y.d y.x.ts := fun y hy => gc.ORow.keep hy fun a e => hg.block _ (gc.ORow.lt hy a e).2 fun e' => orow_ne hy (by decide) hh a e (by injection e' with e')
  refine ⟨?_, fun y hy => ?_⟩
  · unfold flatP
    rw [flat_set pc_len zs i (by omega) z]
    exact orow_run h.row (by rw [pc_len]; omega)
  · rcases List.mem_or_eq_of_mem_set hy with hy | rfl
    · exact hk y (h.tox y hy)
    · exact hk _ hz
/-- One cell of an element is stored. -/
theorem PRow.set1 (h : PRow w base (some ⟨b, o, none⟩) n c zs) {i j : Nat} (hi : i < n) (hj : j < 4) (z : RP) (v : Value) (hv : z.cells = (zs.getD i noRP).cells.set j v) (hz : TRow w base z.q z.m z.d z.x.ts) : PRow (w.setCell ⟨b, o + (i * 4 + j), none⟩ v) base (some ⟨b, o, none⟩) n c (zs.set i z) := by
  have hl := h.len
  obtain ⟨b', o', cur, e', _, hh, _⟩ := h.row.som _ rfl
  cases e'
  have hk : ∀ y : RP, TRow w base y.q y.m y.d y.x.ts → TRow (w.setCell ⟨b, o + (i * 4 + j), none⟩ v) base y.q y.m y.d y.x.ts := fun y hy => gc.ORow.set hy hh (by decide) _ _
  rw [getD_at zs noRP (by omega)] at hv
  refine ⟨?_, fun y hy => ?_⟩
  · unfold flatP
    rw [flat_set1 pc_len zs i (by omega) j hj z v hv]
    exact orow_one h.row v
  · rcases List.mem_or_eq_of_mem_set hy with hy | rfl
    · exact hk y (h.tox y hy)
    · exact hk _ hz
end
theorem infoP : (Tryz.prog.info? TP).map (fun i => (i.zero, i.size, i.bytes)) = some (some (.agg #[.string ⟨#[]⟩, .bool false, .int .i64 0, .slice none 0 0]), 4, 56) := by kernel_rfl
theorem infoT : (Tryz.prog.info? TT).map (fun i => (i.zero, i.size, i.bytes)) = some (some (.agg #[.string ⟨#[]⟩, .int .i64 0, .bool false, .int .i64 0, .int .i64 0, .int .i64 0]), 6, 56) := by kernel_rfl
/-- One more proxy. -/
theorem PRow.app {w : World} {base n c : Nat} {p : Option Addr} {zs : List RP} (h : PRow w base p n c zs) (hbase : base ≤ w.heap.size) (hn : n ≤ 1000) {a : Addr} {d : Nat} (z : RP) (hz : TRow w base z.q z.m z.d z.x.ts) (hc : ∀ j u, z.cells[j]? = some u → w.cell? (a.add j) = some u) :
    ∃ q e w', (∀ ty, (Builtin.append_ #[22, 22] ty #[.slice p n c, .slice (some a) 1 d]).run Tryz.prog w = .ok (.slice q (n + 1) e) w') ∧ PRow w' base q (n + 1) e (zs ++ [z]) ∧ Below base w w' := by
  obtain ⟨i0, hi0, hz0, hz1, hz2⟩ := info_parts infoP
  obtain ⟨q, e, w', r1, r2, r3, r4⟩ := gc.app_row h.row hbase (a := a) (m := 1) (d := d) (news := z.cells) Tryz.underlying22 hi0 hz0 hz1 hz2 rfl (by decide) (by rw [pc_len]) hc (fun u hu => flatP_one [z] u (by unfold flatP; simpa using hu)) (by unfold maxLen; omega) (by omega)
  have hk : ∀ y : RP, TRow w base y.q y.m y.d y.x.ts → TRow w' base y.q y.m y.d y.x.ts := fun y hy => gc.ORow.keep hy fun x ex => r3.block _ (gc.ORow.lt hy x ex).2 fun e' => by
    cases p with
    | none => cases e'
    | some a0 =>
      obtain ⟨cur, hh⟩ := h.row.typed a0 rfl
      have e' : some x.block = some a0.block := e'
      injection e' with e'
      exact orow_ne hy (by decide) hh x ex e'
  refine ⟨q, e, w', r1, ⟨?_, fun y hy => ?_⟩, ⟨r3.os, r3.tape, r3.output, r3.size, fun i hi => r3.block i (Nat.lt_of_lt_of_le hi hbase) fun e' => ?_⟩⟩
  · unfold flatP at r2 ⊢
    rw [List.flatMap_append, List.flatMap_cons, List.flatMap_nil, List.append_nil]
    exact r2
  · rcases List.mem_append.1 hy with hy | hy
    · exact hk y (h.tox y hy)
    · rw [List.mem_singleton.1 hy]
      exact hk _ hz
  · cases p with
    | none => cases e'
    | some a0 =>
      have e' : some i = some a0.block := e'
      injection e' with e'
      have := (h.row.lt a0 rfl).1
      omega
end Go.Proofs.YtmghkcjljnlocaaGreatDoor

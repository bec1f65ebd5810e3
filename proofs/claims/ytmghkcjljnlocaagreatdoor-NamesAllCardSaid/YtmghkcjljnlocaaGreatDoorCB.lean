/-
  Slices that lie anywhere in a block of the call's own: cut, and appended to. Conditions: as each states.
-/
import Derived.Test.YtmghkcjljnlocaaGreatDoorCA2
import Derived.ArgAppend
import Derived.Deep.Upon
namespace Go.Proofs.YtmghkcjljnlocaaGreatDoor.gc
open Go.RowKit

/-- A slice that lies anywhere in a block of the call's own. -/
structure ORow (w : World) (base T K : Nat) (p : Option Addr) (n c : Nat) (zs : List Value) : Prop where
  len : zs.length = n * K
  cap : n ≤ c
  max : c ≤ maxLen
  non : p = none → c = 0
  som : ∀ a, p = some a → ∃ b o cur, a = ⟨b, o, none⟩ ∧ base ≤ b ∧ w.heap[b]? = some (.cells cur T (0, 0)) ∧ o + c * K ≤ cur.size ∧ ∀ j v, zs[j]? = some v → cur[o + j]? = some v
theorem orow_nil (w : World) (base T K : Nat) : ORow w base T K none 0 0 [] := ⟨by simp, Nat.le_refl _, Nat.zero_le _, fun _ => rfl, fun _ h => by cases h⟩
section
variable {w w' : World} {base T K n c : Nat} {p : Option Addr} {zs : List Value}
theorem ORow.lt (h : ORow w base T K p n c zs) : ∀ a, p = some a → base ≤ a.block ∧ a.block < w.heap.size := fun a e => by
  obtain ⟨b, o, cur, rfl, hb, hh, _⟩ := h.som a e
  exact ⟨hb, blk_lt hh⟩
theorem ORow.keep (h : ORow w base T K p n c zs) (hk : ∀ a, p = some a → w'.heap[a.block]? = w.heap[a.block]?) : ORow w' base T K p n c zs :=
  ⟨h.len, h.cap, h.max, h.non, fun a e => by
    obtain ⟨b, o, cur, rfl, hb, hh, hc⟩ := h.som a e
    exact ⟨b, o, cur, rfl, hb, (hk _ e).trans hh, hc⟩⟩
theorem ORow.on (h : ORow w base T K p n c zs) (hb : Below w.heap.size w w') : ORow w' base T K p n c zs := h.keep fun a e => hb.block _ (h.lt a e).2
theorem ORow.typed (h : ORow w base T K p n c zs) : ∀ a, p = some a → ∃ cur, w.heap[a.block]? = some (.cells cur T (0, 0)) := fun a e => by
  obtain ⟨b, o, cur, rfl, _, hh, _⟩ := h.som a e
  exact ⟨cur, hh⟩
/-- A store into a block of another kind. -/
theorem ORow.other (h : ORow w base T K p n c zs) {g : Nat} {cs : Array Value} {T' : TypeId} {fr : Nat × Nat} (hg : w.heap[g]? = some (.cells cs T' fr)) (hT : T' ≠ T) (hw : ∀ k, k ≠ g → w'.heap[k]? = w.heap[k]?) : ORow w' base T K p n c zs :=
  h.keep fun a e => hw _ fun eg => by
    obtain ⟨cur, hh⟩ := h.typed a e
    rw [eg, hg] at hh
    injection hh with hh
    injection hh with _ hT2
    exact hT hT2
theorem ORow.set (h : ORow w base T K p n c zs) {g : Nat} {cs : Array Value} {T' : TypeId} {fr : Nat × Nat} (hg : w.heap[g]? = some (.cells cs T' fr)) (hT : T' ≠ T) (i : Nat) (v : Value) : ORow (w.setCell ⟨g, i, none⟩ v) base T K p n c zs :=
  h.other hg hT fun _ hk => Below.heap_setCell _ _ _ _ hk
theorem ORow.at (h : ORow w base T K p n c zs) (hn : 0 < n) : ∃ b o, p = some ⟨b, o, none⟩ ∧ ∀ j v, zs[j]? = some v → w.cell? ⟨b, o + j, none⟩ = some v := by
  cases p with
  | none => have := h.non rfl; have := h.cap; omega
  | some a =>
    obtain ⟨b, o, cur, rfl, _, hh, _, hc⟩ := h.som a rfl
    exact ⟨b, o, rfl, fun j v hj => by simp only [World.cell?, hh]; exact hc j v hj⟩
theorem ORow.take (h : ORow w base T K p n c zs) (m : Nat) (hm : m ≤ n) : ORow w base T K p m c (zs.take (m * K)) := by
  have h1 : m * K ≤ n * K := Nat.mul_le_mul_right K hm
  refine ⟨by rw [List.length_take, h.len]; omega, Nat.le_trans hm h.cap, h.max, h.non, fun a e => ?_⟩
  obtain ⟨b, o, cur, rfl, hb, hh, hs, hc⟩ := h.som a e
  refine ⟨b, o, cur, rfl, hb, hh, hs, fun j v hj => hc j v ?_⟩
  rw [List.getElem?_take] at hj
  split at hj
  · exact hj
  · cases hj
theorem ORow.drop (h : ORow w base T K p n c zs) (m : Nat) (hm : m ≤ n) : ORow w base T K (if c = m then p else p.map (·.add (m * K))) (n - m) (c - m) (zs.drop (m * K)) := by
  have hmc := Nat.le_trans hm h.cap
  have h1 : (n - m) * K = n * K - m * K := Nat.sub_mul n m K
  have h2 : (c - m) * K = c * K - m * K := Nat.sub_mul c m K
  have h3 : m * K ≤ c * K := Nat.mul_le_mul_right K hmc
  refine ⟨by rw [List.length_drop, h.len, h1], by have := h.cap; omega, Nat.le_trans (Nat.sub_le _ _) h.max, fun e => ?_, fun a e => ?_⟩
  · by_cases hc : c = m
    · omega
    · rw [if_neg hc] at e
      cases p with
      | none => rw [h.non rfl]; omega
      | some a => cases e
  · by_cases hc : c = m
    · rw [if_pos hc] at e
      obtain ⟨b, o, cur, rfl, hb, hh, hs, hc'⟩ := h.som a e
      refine ⟨b, o, cur, rfl, hb, hh, by rw [hc, Nat.sub_self, Nat.zero_mul]; omega, fun j v hj => ?_⟩
      rw [List.drop_eq_nil_of_le (by rw [h.len, show n = m by have := h.cap; omega]; exact Nat.le_refl _)] at hj
      cases hj
    · rw [if_neg hc] at e
      cases p with
      | none => cases e
      | some a' =>
        obtain ⟨b, o, cur, rfl, hb, hh, hs, hc'⟩ := h.som a' rfl
        rw [Option.map_some, WideShapes.add_plain] at e
        cases e
        refine ⟨b, o + m * K, cur, rfl, hb, hh, by omega, fun j v hj => ?_⟩
        rw [List.getElem?_drop] at hj
        rw [Nat.add_assoc]
        exact hc' _ v hj
end
/-- A row of the call's own that was just made. -/
theorem orow_of_own {w : World} {base T K n d : Nat} {q : Option Addr} {zs : List Value} (h : w.ownsRow base T K (.slice q n d) n zs) : ORow w base T K q n d zs := by
  obtain ⟨hl, ⟨e, h0⟩ | ⟨g, cap, cur, e, hb, hh, h1, h2, h3, h4⟩⟩ := h
  · cases e
    exact ⟨hl, Nat.le_refl _, Nat.zero_le _, fun _ => rfl, fun _ h => by cases h⟩
  · cases e
    refine ⟨hl, h1, h2, (fun e => by cases e), fun a e => ?_⟩
    cases e
    refine ⟨g, 0, cur, rfl, hb, hh, by omega, fun j v hj => ?_⟩
    rw [← h4, List.getElem?_take] at hj
    split at hj
    · rw [Nat.zero_add]; simpa using hj
    · cases hj
theorem own_slice {w : World} {base T K n : Nat} {v : Value} {zs : List Value} (h : w.ownsRow base T K v n zs) : ∃ q d, v = .slice q n d ∧ ∀ a, q = some a → base ≤ a.block ∧ a.block < w.heap.size := by
  obtain ⟨hl, ⟨rfl, rfl⟩ | ⟨g, cap, cur, rfl, hb, hh, h1, h2, h3, h4⟩⟩ := h
  · exact ⟨none, 0, rfl, fun _ h => by cases h⟩
  · exact ⟨_, cap, rfl, fun a e => by cases e; exact ⟨hb, blk_lt hh⟩⟩
theorem setCells_blk {b : Nat} {T : TypeId} {fr : Nat × Nat} (vs : List Value) : ∀ (o : Nat) (w : World) (cur : Array Value), w.heap[b]? = some (.cells cur T fr) → ∃ cur' : Array Value, (w.setCells b o vs).heap[b]? = some (.cells cur' T fr) ∧ cur'.size = cur.size := by
  induction vs with
  | nil => exact fun o w cur h => ⟨cur, h, rfl⟩
  | cons v r ih =>
    intro o w cur h
    obtain ⟨cur', h1, h2⟩ := ih (o + 1) (w.setCell ⟨b, o, none⟩ v) _ (set_heap h v)
    exact ⟨cur', h1, by simpa using h2⟩
theorem setCells_grown (w : World) (b o : Nat) (vs : List Value) : w.grownBy (w.setCells b o vs) (some b) := by
  have hs : ∀ (vs : List Value) (o : Nat) (w : World), (w.setCells b o vs).tape = w.tape ∧ (w.setCells b o vs).heap.size = w.heap.size := by
    intro vs
    induction vs with
    | nil => exact fun _ _ => ⟨rfl, rfl⟩
    | cons v r ih => exact fun o w => ⟨(ih (o + 1) _).1, (ih (o + 1) _).2.trans (by simp [World.setCell])⟩
  exact ⟨World.os_setCells w b o vs, (hs vs o w).1, World.output_setCells w b o vs, Nat.le_of_eq (hs vs o w).2.symm, fun k hk hne => World.heap_setCells_other w b o vs hk fun e => hne (by rw [e])⟩
/-- One more run of cells behind such a slice: in its own block, where there is room, else in a new one. -/
theorem app_row {w : World} {base T K n c : Nat} {p : Option Addr} {zs : List Value} (ho : ORow w base T K p n c zs) (hbase : base ≤ w.heap.size) {t : TypeId} {i0 : TypeInfo} {z : Value} {by0 : Nat} (ht : Tryz.prog.underlying t = some (.slice T)) (hi : Tryz.prog.info? T = some i0) (hz : i0.zero = some z)
    (h1 : i0.size = K) (h2 : i0.bytes = by0) (h3 : z.cells.size = K) (hK : 0 < K) {a : Addr} {m d : Nat} {news : List Value} (hl : news.length = m * K) (hnews : ∀ j u, news[j]? = some u → w.cell? (a.add j) = some u) (hone : ∀ u ∈ news, u.oneCell' = true)
    (hmax : n + m ≤ maxLen) (hbytes : (n + m) * by0 ≤ 140737488355328) :
    ∃ q e w', (∀ ty, (Builtin.append_ #[t, t] ty #[.slice p n c, .slice (some a) m d]).run Tryz.prog w = .ok (.slice q (n + m) e) w') ∧ ORow w' base T K q (n + m) e (zs ++ news) ∧ w.grownBy w' (p.map (·.block)) ∧ ∀ x, q = some x → p.map (·.block) = some x.block ∨ w.heap.size ≤ x.block := by
  cases p with
  | none =>
    obtain rfl : c = 0 := ho.non rfl
    obtain rfl : n = 0 := by have := ho.cap; omega
    obtain rfl : zs = [] := List.eq_nil_of_length_eq_zero (by rw [ho.len, Nat.zero_mul])
    obtain ⟨v', w', r1, r2, r3, _⟩ := run_append_own w w.heap.size t 0 T i0 z K by0 ht hi hz h1 h2 h3 hK (.slice none 0 0) 0 [] (World.ownsRow_nil _ _ _ _) a m d news hl hnews hone hmax hbytes (Nat.le_refl _)
    obtain ⟨q, e, rfl, hq⟩ := own_slice r2
    refine ⟨q, e, w', fun ty => ?_, orow_of_own (own_low r2 hbase), r3, fun x hx => Or.inr (hq x hx).1⟩
    rw [← r1]
    rfl
  | some a0 =>
    obtain ⟨b, o, cur, rfl, hb, hh, hs, hc⟩ := ho.som a0 rfl
    have hlen : (zs ++ news).length = (n + m) * K := by rw [List.length_append, ho.len, hl, Nat.add_mul]
    by_cases hroom : n + m ≤ c
    · have hfit : (n + m) * K ≤ c * K := Nat.mul_le_mul_right K hroom
      have hfit2 : o + n * K + news.length ≤ cur.size := by rw [hl]; rw [Nat.add_mul] at hfit; omega
      have hcell : ∀ j, j < news.length → (w.cell? ⟨b, o + n * K + j, none⟩).isSome = true := fun j hj => by
        simp only [World.cell?, hh]
        rw [Array.getElem?_eq_getElem (by omega)]
        rfl
      have hfro : ∀ j, j < news.length → w.frozen? ⟨b, o + n * K + j, none⟩ = false := fun j hj => frozen_at hh
      subst h1
      have hr := fun ty => run_append_room_cells (P := Tryz.prog) w t ty T i0 ht hi b o n c a m d news hl hnews hone hroom hcell hfro
      obtain ⟨cur', hh', hs'⟩ := setCells_blk news (o + n * i0.size) w cur hh
      refine ⟨_, c, _, hr, ⟨hlen, hroom, ho.max, (fun e => by cases e), fun x e => ?_⟩, setCells_grown _ _ _ _, fun x e => Or.inl (by cases e; rfl)⟩
      cases e
      refine ⟨b, o, cur', rfl, hb, hh', by omega, fun j v hj => ?_⟩
      have key : (w.setCells b (o + n * i0.size) news).cell? ⟨b, o + j, none⟩ = some v := by
        rcases Nat.lt_or_ge j (n * i0.size) with hjn | hjn
        · rw [World.cell?_setCells_out _ _ _ _ _ (fun _ _ => Or.inl (by show o + j < o + n * i0.size; omega))]
          rw [List.getElem?_append_left (by rw [ho.len]; exact hjn)] at hj
          simp only [World.cell?, hh]
          exact hc j v hj
        · rw [List.getElem?_append_right (by rw [ho.len]; exact hjn), ho.len] at hj
          have hjl := (List.getElem?_eq_some_iff.1 hj).1
          have := World.cell?_setCells_in b news (o + n * i0.size) w hcell (j - n * i0.size) hjl
          rw [show o + n * i0.size + (j - n * i0.size) = o + j by omega] at this
          rw [this, ← hj, List.getElem?_eq_getElem hjl]
      simp only [World.cell?, hh'] at key
      exact key
    · obtain ⟨v', w', r1, r2, r3⟩ := run_append_arg_grows w t 0 T i0 z K by0 ht hi hz h1 h2 h3 hK ⟨b, o, none⟩ n c zs ho.len (fun j u hj => by rw [WideShapes.add_plain]; simp only [World.cell?, hh]; exact hc j u hj) a m d news hl hnews (by omega) hmax hbytes
      obtain ⟨q, e, rfl, hq⟩ := own_slice r2
      refine ⟨q, e, w', fun ty => ?_, orow_of_own (own_low r2 hbase), ⟨r3.os, r3.tape, r3.output, r3.size, fun k hk _ => r3.block k hk (by simp)⟩, fun x hx => Or.inr (hq x hx).1⟩
      rw [← r1]
      rfl
end Go.Proofs.YtmghkcjljnlocaaGreatDoor.gc

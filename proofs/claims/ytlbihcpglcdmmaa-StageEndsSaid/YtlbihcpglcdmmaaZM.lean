/-
  Slices of steps, as lists; rows of numbers. Conditions: as each states.
  Slices that lie anywhere in a block of the call's own: cut, and appended to. Conditions: as each states.
  Mathematics of windows: what was taken from some step to another is no more than the burst, and the rate for each tick. Conditions: as each states.
-/
import Derived.Test.YtlbihcpglcdmmaaZ1
import Derived.OwnWalk
import Derived.Laws.AppendOwn
import Derived.Lib.AppendZeros
import Derived.ArgAppend
import Derived.Deep.Upon
namespace Go.Proofs.Ytlbihcpglcdmmaa.gb
open Go.RowKit

/-- A step: so many ticks later, so many. -/
abbrev Stp := Int × Int
def noStp : Stp := (0, 0)
def StpsIn (w : World) (p : Option Addr) (n : Nat) (os : List Stp) : Prop := 0 < n → ∃ b o, p = some ⟨b, o, none⟩ ∧ ∀ i, i < n →
  w.cell? ⟨b, o + i * 2, none⟩ = some (.int .i64 (os.getD i noStp).1) ∧ w.cell? ⟨b, o + (i * 2 + 1), none⟩ = some (.int .i64 (os.getD i noStp).2)
theorem stps_on {w w' : World} {p : Option Addr} {n : Nat} {os : List Stp} (h : StpsIn w p n os) (hb : Below w.heap.size w w') : StpsIn w' p n os := fun hn => by
  obtain ⟨b, o, e, hc⟩ := h hn
  exact ⟨b, o, e, fun i hi => ⟨(hb.cell (World.block_lt_of_cell? w _ (hc i hi).1)).trans (hc i hi).1, (hb.cell (World.block_lt_of_cell? w _ (hc i hi).2)).trans (hc i hi).2⟩⟩
def Wf64 (x : Int) : Prop := -9223372036854775808 ≤ x ∧ x ≤ 9223372036854775807
theorem stp_of (l : List Stp) (k : Nat) (h : k < l.length) : l.getD k noStp ∈ l := by
  rw [List.getD_eq_getElem?_getD, List.getElem?_eq_getElem h]
  exact List.getElem_mem h

/-! Rows of numbers. -/
def IntsIn (w : World) (p : Option Addr) (n : Nat) (xs : List Int) : Prop := 0 < n → ∃ b o, p = some ⟨b, o, none⟩ ∧ ∀ i, i < n → w.cell? ⟨b, o + i, none⟩ = some (.int .i64 (xs.getD i 0))
theorem ints_on {w w' : World} {p : Option Addr} {n : Nat} {xs : List Int} (h : IntsIn w p n xs) (hb : Below w.heap.size w w') : IntsIn w' p n xs := fun hn => by
  obtain ⟨b, o, e, hc⟩ := h hn
  exact ⟨b, o, e, fun i hi => (hb.cell (World.block_lt_of_cell? w _ (hc i hi))).trans (hc i hi)⟩
theorem ints_nil (w : World) (p : Option Addr) (xs : List Int) : IntsIn w p 0 xs := fun h => absurd h (Nat.lt_irrefl 0)
theorem own_ints {w : World} {base n : Nat} {v : Value} {xs : List Int} (h : w.ownsRow base 3 1 v n (xs.map (Value.int .i64))) :
    ∃ p c, v = .slice p n c ∧ xs.length = n ∧ IntsIn w p n xs ∧ (p = none → c = 0) ∧ n ≤ c ∧ c ≤ 9223372036854775807 := by
  have hl : xs.length = n := by have := h.1; simpa using this
  obtain ⟨_, ⟨rfl, rfl⟩ | ⟨g, cap, cur, rfl, hb, hh, h1, h2, h3, h4⟩⟩ := id h
  · exact ⟨none, 0, rfl, hl, ints_nil _ _ _, fun _ => rfl, Nat.le_refl _, by omega⟩
  · unfold maxLen at h2
    refine ⟨_, cap, rfl, hl, fun _ => ⟨g, 0, rfl, fun i hi => ?_⟩, (fun h => by cases h), h1, by omega⟩
    rw [Nat.zero_add, h.cellAt i (by omega), List.getElem?_map, List.getD_eq_getElem?_getD, List.getElem?_eq_getElem (by omega)]
    rfl
theorem info3 : (Try.prog.info? 3).map (fun i => (i.zero, i.size, i.bytes)) = some (some (.int .i64 0), 1, 8) := by kernel_rfl
theorem own_on {w w' : World} {base T K n : Nat} {v : Value} {zs : List Value} (h : w.ownsRow base T K v n zs) (hb : Below w.heap.size w w') : w'.ownsRow base T K v n zs :=
  h.kept (row := none) ⟨hb.os, hb.tape, hb.output, hb.size, fun i hi _ => hb.block i hi⟩ (by cases e : v.ownBlock <;> simp)
theorem made_int (w : World) (x : Int) (T : TypeId) (fr : Nat × Nat) : IntsIn (w.alloc (.cells #[.int .i64 x] T fr)) (some ⟨w.heap.size, 0, none⟩) 1 [x] := fun _ => ⟨_, _, rfl, fun i hi => by
  obtain rfl : i = 0 := by omega
  exact cell_of_row _ _ 0 _ _ _ (heap_alloc_new w (.cells #[.int .i64 x] T fr))⟩
/-- One number more, of a row that was just made. -/
theorem app_int {w w0 : World} {base m : Nat} {v : Value} {zs : List Int} (hown : w.ownsRow base 3 1 v m (zs.map (Value.int .i64))) (hbase : base ≤ w.heap.size) (hb : Below base w0 w) (hbig : m + 1 ≤ 1000000) (x : Int) :
    ∃ q d w', (∀ ty, (Builtin.append_ #[50, 50] ty #[v, .slice (some ⟨w.heap.size, 0, none⟩) 1 1]).run Try.prog (w.alloc (.cells #[.int .i64 x] 3)) = .ok (.slice q (m + 1) d) w') ∧ w'.ownsRow base 3 1 (.slice q (m + 1) d) (m + 1) ((zs ++ [x]).map (Value.int .i64)) ∧ Below base w0 w' ∧ (w.alloc (.cells #[.int .i64 x] 3)).grownBy w' v.ownBlock := by
  obtain ⟨i0, hi0, hz0, hz1, hz2⟩ := info_parts info3
  have ho := hown.alloc (.cells #[.int .i64 x] 3)
  have hnew := heap_alloc_new w (.cells #[.int .i64 x] 3)
  obtain ⟨v', w', h1, h2, h3, _⟩ := run_append_own _ base 50 50 3 i0 (.int .i64 0) 1 8 Try.underlying50 hi0 hz0 hz1 hz2 rfl (by decide) v m _ ho ⟨w.heap.size, 0, none⟩ 1 1 ([x].map (Value.int .i64)) rfl (by
    intro j u hj
    have hj1 : j < 1 := by have := (List.getElem?_eq_some_iff.mp hj).1; simpa using this
    obtain rfl : j = 0 := by omega
    rw [WideShapes.add_plain, ← hj]
    exact cell_of_row _ _ 0 _ _ _ hnew) (by simp [Value.oneCell']) (by unfold maxLen; omega) (by omega) (by simp; omega)
  rw [← List.map_append] at h2
  obtain ⟨q, d, rfl, _⟩ := own_ints h2
  exact ⟨q, d, w', fun ty => by rw [← h1]; rfl, h2, (hb.alloc hbase _).grown h3 (by simp; omega) (fun j hj => (hown.lt j hj).1), h3⟩
end Go.Proofs.Ytlbihcpglcdmmaa.gb
namespace Go.Proofs.Ytlbihcpglcdmmaa.gb
open Go.RowKit

theorem own_low {w : World} {base base' T K n : Nat} {v : Value} {zs : List Value} (h : w.ownsRow base T K v n zs) (hb : base' ≤ base) : w.ownsRow base' T K v n zs := by
  obtain ⟨hl, h0 | ⟨g, cap, cur, e1, e2, e3⟩⟩ := h
  · exact ⟨hl, Or.inl h0⟩
  · exact ⟨hl, Or.inr ⟨g, cap, cur, e1, by omega, e3⟩⟩
/-- A slice that lies anywhere in a block of the call's own. -/
structure ORow (w : World) (base T K : Nat) (p : Option Addr) (n c : Nat) (zs : List Value) : Prop where
  len : zs.length = n * K
  cap : n ≤ c
  max : c ≤ maxLen
  non : p = none → c = 0
  som : ∀ a, p = some a → ∃ b o cur, a = ⟨b, o, none⟩ ∧ base ≤ b ∧ w.heap[b]? = some (.cells cur T (0, 0)) ∧ o + c * K ≤ cur.size ∧ ∀ j v, zs[j]? = some v → cur[o + j]? = some v
theorem orow_nil (w : World) (base T K : Nat) : ORow w base T K none 0 0 [] := ⟨by simp, Nat.le_refl _, Nat.zero_le _, fun _ => rfl, fun _ h => by cases h⟩
section
variable {w w' : World} {base T K n c : Nat} {p : Option Addr} {zs : List Value}
theorem ORow.lt (h : ORow w base T K p n c zs) : ∀ a, p = some a → base ≤ a.block ∧ a.block < w.heap.size := fun a e => by
  obtain ⟨b, o, cur, rfl, hb, hh, _⟩ := h.som a e
  exact ⟨hb, blk_lt hh⟩
theorem ORow.keep (h : ORow w base T K p n c zs) (hk : ∀ a, p = some a → w'.heap[a.block]? = w.heap[a.block]?) : ORow w' base T K p n c zs :=
  ⟨h.len, h.cap, h.max, h.non, fun a e => by
    obtain ⟨b, o, cur, rfl, hb, hh, hc⟩ := h.som a e
    exact ⟨b, o, cur, rfl, hb, (hk _ e).trans hh, hc⟩⟩
theorem ORow.on (h : ORow w base T K p n c zs) (hb : Below w.heap.size w w') : ORow w' base T K p n c zs := h.keep fun a e => hb.block _ (h.lt a e).2
theorem ORow.typed (h : ORow w base T K p n c zs) : ∀ a, p = some a → ∃ cur, w.heap[a.block]? = some (.cells cur T (0, 0)) := fun a e => by
  obtain ⟨b, o, cur, rfl, _, hh, _⟩ := h.som a e
  exact ⟨cur, hh⟩
/-- A store into a block of another kind. -/
theorem ORow.other (h : ORow w base T K p n c zs) {g : Nat} {cs : Array Value} {T' : TypeId} {fr : Nat × Nat} (hg : w.heap[g]? = some (.cells cs T' fr)) (hT : T' ≠ T) (hw : ∀ k, k ≠ g → w'.heap[k]? = w.heap[k]?) : ORow w' base T K p n c zs :=
  h.keep fun a e => hw _ fun eg => by
    obtain ⟨cur, hh⟩ := h.typed a e
    rw [eg, hg] at hh
    injection hh with hh
    injection hh with _ hT2
    exact hT hT2
theorem ORow.set (h : ORow w base T K p n c zs) {g : Nat} {cs : Array Value} {T' : TypeId} {fr : Nat × Nat} (hg : w.heap[g]? = some (.cells cs T' fr)) (hT : T' ≠ T) (i : Nat) (v : Value) : ORow (w.setCell ⟨g, i, none⟩ v) base T K p n c zs :=
  h.other hg hT fun _ hk => Below.heap_setCell _ _ _ _ hk
theorem ORow.at (h : ORow w base T K p n c zs) (hn : 0 < n) : ∃ b o, p = some ⟨b, o, none⟩ ∧ ∀ j v, zs[j]? = some v → w.cell? ⟨b, o + j, none⟩ = some v := by
  cases p with
  | none => have := h.non rfl; have := h.cap; omega
  | some a =>
    obtain ⟨b, o, cur, rfl, _, hh, _, hc⟩ := h.som a rfl
    exact ⟨b, o, rfl, fun j v hj => by simp only [World.cell?, hh]; exact hc j v hj⟩
theorem ORow.take (h : ORow w base T K p n c zs) (m : Nat) (hm : m ≤ n) : ORow w base T K p m c (zs.take (m * K)) := by
  have h1 : m * K ≤ n * K := Nat.mul_le_mul_right K hm
  refine ⟨by rw [List.length_take, h.len]; omega, Nat.le_trans hm h.cap, h.max, h.non, fun a e => ?_⟩
  obtain ⟨b, o, cur, rfl, hb, hh, hs, hc⟩ := h.som a e
  refine ⟨b, o, cur, rfl, hb, hh, hs, fun j v hj => hc j v ?_⟩
  rw [List.getElem?_take] at hj
  split at hj
  · exact hj
  · cases hj
theorem ORow.drop (h : ORow w base T K p n c zs) (m : Nat) (hm : m ≤ n) : ORow w base T K (if c = m then p else p.map (·.add (m * K))) (n - m) (c - m) (zs.drop (m * K)) := by
  have hmc := Nat.le_trans hm h.cap
  have h1 : (n - m) * K = n * K - m * K := Nat.sub_mul n m K
  have h2 : (c - m) * K = c * K - m * K := Nat.sub_mul c m K
  have h3 : m * K ≤ c * K := Nat.mul_le_mul_right K hmc
  refine ⟨by rw [List.length_drop, h.len, h1], by have := h.cap; omega, Nat.le_trans (Nat.sub_le _ _) h.max, fun e => ?_, fun a e => ?_⟩
  · by_cases hc : c = m
    · omega
    · rw [if_neg hc] at e
      cases p with
      | none => rw [h.non rfl]; omega
      | some a => cases e
  · by_cases hc : c = m
    · rw [if_pos hc] at e
      obtain ⟨b, o, cur, rfl, hb, hh, hs, hc'⟩ := h.som a e
      refine ⟨b, o, cur, rfl, hb, hh, by rw [hc, Nat.sub_self, Nat.zero_mul]; omega, fun j v hj => ?_⟩
      rw [List.drop_eq_nil_of_le (by rw [h.len, show n = m by have := h.cap; omega]; exact Nat.le_refl _)] at hj
      cases hj
    · rw [if_neg hc] at e
      cases p with
      | none => cases e
      | some a' =>
        obtain ⟨b, o, cur, rfl, hb, hh, hs, hc'⟩ := h.som a' rfl
        rw [Option.map_some, WideShapes.add_plain] at e
        cases e
        refine ⟨b, o + m * K, cur, rfl, hb, hh, by omega, fun j v hj => ?_⟩
        rw [List.getElem?_drop] at hj
        rw [Nat.add_assoc]
        exact hc' _ v hj
end
/-- A row of the call's own that was just made. -/
theorem orow_of_own {w : World} {base T K n d : Nat} {q : Option Addr} {zs : List Value} (h : w.ownsRow base T K (.slice q n d) n zs) : ORow w base T K q n d zs := by
  obtain ⟨hl, ⟨e, h0⟩ | ⟨g, cap, cur, e, hb, hh, h1, h2, h3, h4⟩⟩ := h
  · cases e
    exact ⟨hl, Nat.le_refl _, Nat.zero_le _, fun _ => rfl, fun _ h => by cases h⟩
  · cases e
    refine ⟨hl, h1, h2, (fun e => by cases e), fun a e => ?_⟩
    cases e
    refine ⟨g, 0, cur, rfl, hb, hh, by omega, fun j v hj => ?_⟩
    rw [← h4, List.getElem?_take] at hj
    split at hj
    · rw [Nat.zero_add]; simpa using hj
    · cases hj
theorem own_slice {w : World} {base T K n : Nat} {v : Value} {zs : List Value} (h : w.ownsRow base T K v n zs) : ∃ q d, v = .slice q n d ∧ ∀ a, q = some a → base ≤ a.block ∧ a.block < w.heap.size := by
  obtain ⟨hl, ⟨rfl, rfl⟩ | ⟨g, cap, cur, rfl, hb, hh, h1, h2, h3, h4⟩⟩ := h
  · exact ⟨none, 0, rfl, fun _ h => by cases h⟩
  · exact ⟨_, cap, rfl, fun a e => by cases e; exact ⟨hb, blk_lt hh⟩⟩
theorem setCells_blk {b : Nat} {T : TypeId} {fr : Nat × Nat} (vs : List Value) : ∀ (o : Nat) (w : World) (cur : Array Value), w.heap[b]? = some (.cells cur T fr) → ∃ cur' : Array Value, (w.setCells b o vs).heap[b]? = some (.cells cur' T fr) ∧ cur'.size = cur.size := by
  induction vs with
  | nil => exact fun o w cur h => ⟨cur, h, rfl⟩
  | cons v r ih =>
    intro o w cur h
    obtain ⟨cur', h1, h2⟩ := ih (o + 1) (w.setCell ⟨b, o, none⟩ v) _ (set_heap h v)
    exact ⟨cur', h1, by simpa using h2⟩
theorem setCells_grown (w : World) (b o : Nat) (vs : List Value) : w.grownBy (w.setCells b o vs) (some b) := by
  have hs : ∀ (vs : List Value) (o : Nat) (w : World), (w.setCells b o vs).tape = w.tape ∧ (w.setCells b o vs).heap.size = w.heap.size := by
    intro vs
    induction vs with
    | nil => exact fun _ _ => ⟨rfl, rfl⟩
    | cons v r ih => exact fun o w => ⟨(ih (o + 1) _).1, (ih (o + 1) _).2.trans (by simp [World.setCell])⟩
  exact ⟨World.os_setCells w b o vs, (hs vs o w).1, World.output_setCells w b o vs, Nat.le_of_eq (hs vs o w).2.symm, fun k hk hne => World.heap_setCells_other w b o vs hk fun e => hne (by rw [e])⟩
/-- One more run of cells behind such a slice: in its own block, where there is room, else in a new one. -/
theorem app_row {w : World} {base T K n c : Nat} {p : Option Addr} {zs : List Value} (ho : ORow w base T K p n c zs) (hbase : base ≤ w.heap.size) {t : TypeId} {i0 : TypeInfo} {z : Value} {by0 : Nat} (ht : Try.prog.underlying t = some (.slice T)) (hi : Try.prog.info? T = some i0) (hz : i0.zero = some z)
    (h1 : i0.size = K) (h2 : i0.bytes = by0) (h3 : z.cells.size = K) (hK : 0 < K) {a : Addr} {m d : Nat} {news : List Value} (hl : news.length = m * K) (hnews : ∀ j u, news[j]? = some u → w.cell? (a.add j) = some u) (hone : ∀ u ∈ news, u.oneCell' = true)
    (hmax : n + m ≤ maxLen) (hbytes : (n + m) * by0 ≤ 140737488355328) :
    ∃ q e w', (∀ ty, (Builtin.append_ #[t, t] ty #[.slice p n c, .slice (some a) m d]).run Try.prog w = .ok (.slice q (n + m) e) w') ∧ ORow w' base T K q (n + m) e (zs ++ news) ∧ w.grownBy w' (p.map (·.block)) ∧ ∀ x, q = some x → p.map (·.block) = some x.block ∨ w.heap.size ≤ x.block := by
  cases p with
  | none =>
    obtain rfl : c = 0 := ho.non rfl
    obtain rfl : n = 0 := by have := ho.cap; omega
    obtain rfl : zs = [] := List.eq_nil_of_length_eq_zero (by rw [ho.len, Nat.zero_mul])
    obtain ⟨v', w', r1, r2, r3, _⟩ := run_append_own w w.heap.size t 0 T i0 z K by0 ht hi hz h1 h2 h3 hK (.slice none 0 0) 0 [] (World.ownsRow_nil _ _ _ _) a m d news hl hnews hone hmax hbytes (Nat.le_refl _)
    obtain ⟨q, e, rfl, hq⟩ := own_slice r2
    refine ⟨q, e, w', fun ty => ?_, orow_of_own (own_low r2 hbase), r3, fun x hx => Or.inr (hq x hx).1⟩
    rw [← r1]
    rfl
  | some a0 =>
    obtain ⟨b, o, cur, rfl, hb, hh, hs, hc⟩ := ho.som a0 rfl
    have hlen : (zs ++ news).length = (n + m) * K := by rw [List.length_append, ho.len, hl, Nat.add_mul]
    by_cases hroom : n + m ≤ c
    · have hfit : (n + m) * K ≤ c * K := Nat.mul_le_mul_right K hroom
      have hfit2 : o + n * K + news.length ≤ cur.size := by rw [hl]; rw [Nat.add_mul] at hfit; omega
      have hcell : ∀ j, j < news.length → (w.cell? ⟨b, o + n * K + j, none⟩).isSome = true := fun j hj => by
        simp only [World.cell?, hh]
        rw [Array.getElem?_eq_getElem (by omega)]
        rfl
      have hfro : ∀ j, j < news.length → w.frozen? ⟨b, o + n * K + j, none⟩ = false := fun j hj => frozen_at hh
      subst h1
      have hr := fun ty => run_append_room_cells (P := Try.prog) w t ty T i0 ht hi b o n c a m d news hl hnews hone hroom hcell hfro
      obtain ⟨cur', hh', hs'⟩ := setCells_blk news (o + n * i0.size) w cur hh
      refine ⟨_, c, _, hr, ⟨hlen, hroom, ho.max, (fun e => by cases e), fun x e => ?_⟩, setCells_grown _ _ _ _, fun x e => Or.inl (by cases e; rfl)⟩
      cases e
      refine ⟨b, o, cur', rfl, hb, hh', by omega, fun j v hj => ?_⟩
      have key : (w.setCells b (o + n * i0.size) news).cell? ⟨b, o + j, none⟩ = some v := by
        rcases Nat.lt_or_ge j (n * i0.size) with hjn | hjn
        · rw [World.cell?_setCells_out _ _ _ _ _ (fun _ _ => Or.inl (by show o + j < o + n * i0.size; omega))]
          rw [List.getElem?_append_left (by rw [ho.len]; exact hjn)] at hj
          simp only [World.cell?, hh]
          exact hc j v hj
        · rw [List.getElem?_append_right (by rw [ho.len]; exact hjn), ho.len] at hj
          have hjl := (List.getElem?_eq_some_iff.1 hj).1
          have := World.cell?_setCells_in b news (o + n * i0.size) w hcell (j - n * i0.size) hjl
          rw [show o + n * i0.size + (j - n * i0.size) = o + j by omega] at this
          rw [this, ← hj, List.getElem?_eq_getElem hjl]
      simp only [World.cell?, hh'] at key
      exact key
    · obtain ⟨v', w', r1, r2, r3⟩ := run_append_arg_grows w t 0 T i0 z K by0 ht hi hz h1 h2 h3 hK ⟨b, o, none⟩ n c zs ho.len (fun j u hj => by rw [WideShapes.add_plain]; simp only [World.cell?, hh]; exact hc j u hj) a m d news hl hnews (by omega) hmax hbytes
      obtain ⟨q, e, rfl, hq⟩ := own_slice r2
      refine ⟨q, e, w', fun ty => ?_, orow_of_own (own_low r2 hbase), ⟨r3.os, r3.tape, r3.output, r3.size, fun k hk _ => r3.block k hk (by simp)⟩, fun x hx => Or.inr (hq x hx).1⟩
      rw [← r1]
      rfl
/-- One number more behind such a row, out of a block that was just made. -/
theorem app_num {w : World} {base n c : Nat} {p : Option Addr} {xs : List Int} (ho : ORow w base 3 1 p n c (xs.map (Value.int .i64))) (hbase : base ≤ w.heap.size) (hn : n + 1 ≤ 1000000) (x : Int) :
    ∃ q e w', (∀ ty, (Builtin.append_ #[50, 50] ty #[.slice p n c, .slice (some ⟨w.heap.size, 0, none⟩) 1 1]).run Try.prog (w.alloc (.cells #[.int .i64 x] 3)) = .ok (.slice q (n + 1) e) w') ∧ ORow w' base 3 1 q (n + 1) e ((xs ++ [x]).map (Value.int .i64)) ∧ (w.alloc (.cells #[.int .i64 x] 3)).grownBy w' (p.map (·.block)) ∧ ∀ y, q = some y → p.map (·.block) = some y.block ∨ w.heap.size ≤ y.block := by
  obtain ⟨i0, hi0, hz0, hz1, hz2⟩ := info_parts info3
  have hal : Below w.heap.size w (w.alloc (.cells #[.int .i64 x] 3)) := (Below.refl _ _).alloc (Nat.le_refl _) _
  have hnew := heap_alloc_new w (.cells #[.int .i64 x] 3)
  obtain ⟨q, e, w', r1, r2, r3, r4⟩ := app_row (ho.on hal) (Nat.le_trans hbase hal.size) (t := 50) Try.underlying50 hi0 hz0 hz1 hz2 rfl (by decide) (a := ⟨w.heap.size, 0, none⟩) (m := 1) (d := 1) (news := [.int .i64 x]) rfl (by
    intro j v hj
    have hj1 : j < 1 := by have := (List.getElem?_eq_some_iff.mp hj).1; simpa using this
    obtain rfl : j = 0 := by omega
    rw [WideShapes.add_plain, ← hj]
    exact cell_of_row _ _ 0 _ _ _ hnew) (by simp [Value.oneCell']) (by unfold maxLen; omega) (by omega)
  refine ⟨q, e, w', r1, by rw [List.map_append]; exact r2, r3, fun y hy => (r4 y hy).imp_right fun h => Nat.le_trans hal.size h⟩
/-- A row stays, where another one grows. -/
theorem ORow.apart {w w' : World} {base T K n c : Nat} {p q : Option Addr} {zs : List Value} (h : ORow w base T K p n c zs) (hg : w.grownBy w' (q.map (·.block))) (hd : ∀ x, p = some x → q.map (·.block) ≠ some x.block) : ORow w' base T K p n c zs :=
  h.keep fun a e => hg.block _ (h.lt a e).2 fun e' => hd a e e'.symm
theorem ORow.num {w : World} {base n c : Nat} {p : Option Addr} {xs : List Int} (h : ORow w base 3 1 p n c (xs.map (Value.int .i64))) : xs.length = n ∧ IntsIn w p n xs := by
  have hl := h.len
  rw [List.length_map] at hl
  refine ⟨by omega, fun hn => ?_⟩
  obtain ⟨b, o, e, hc⟩ := h.at hn
  refine ⟨b, o, e, fun i hi => hc i _ ?_⟩
  rw [List.getElem?_map, List.getD_eq_getElem?_getD, List.getElem?_eq_getElem (by omega)]
  rfl
end Go.Proofs.Ytlbihcpglcdmmaa.gb
namespace Go.Proofs.Ytlbihcpglcdmmaa.gb

def sm : List Int → Int
  | [] => 0
  | x :: r => x + sm r
theorem sm_append (l m : List Int) : sm (l ++ m) = sm l + sm m := by
  induction l with
  | nil => simp [sm]
  | cons x r ih => simp only [List.cons_append, sm, ih]; omega
theorem sm_nonneg {l : List Int} (h : ∀ g ∈ l, 0 ≤ g) : 0 ≤ sm l := by
  induction l with
  | nil => exact Int.le_refl _
  | cons x r ih =>
    have h1 := h x (by simp)
    have h2 := ih fun g hg => h g (by simp [hg])
    simp only [sm]
    omega
structure Win (r u : Int) (ats gs : List Int) (L t : Int) : Prop where
  len : ats.length = gs.length
  pos : ∀ g ∈ gs, 0 ≤ g
  lev : 0 ≤ L
  atl : ∀ i, i < ats.length → 0 ≤ ats.getD i 0 ∧ ats.getD i 0 ≤ t
  mono : ∀ i j, i ≤ j → j < ats.length → ats.getD i 0 ≤ ats.getD j 0
  tail : ∀ i, i < ats.length → sm (gs.drop i) + L ≤ u + r * (t - ats.getD i 0)
  pairs : ∀ i j, i ≤ j → j < ats.length → sm ((gs.drop i).take (j + 1 - i)) ≤ u + r * (ats.getD j 0 - ats.getD i 0)
theorem win_nil (r u L : Int) (hL : 0 ≤ L) : Win r u [] [] L 0 :=
  ⟨rfl, (fun _ h => by cases h), hL, fun i h => absurd h (Nat.not_lt_zero _), fun _ _ _ h => absurd h (Nat.not_lt_zero _), fun i h => absurd h (Nat.not_lt_zero _), fun _ _ _ h => absurd h (Nat.not_lt_zero _)⟩
theorem getD_old {l : List Int} (x : Int) {i : Nat} (h : i < l.length) : (l ++ [x]).getD i 0 = l.getD i 0 := by
  rw [List.getD_eq_getElem?_getD, List.getD_eq_getElem?_getD, List.getElem?_append_left h]
theorem getD_new (l : List Int) (x : Int) : (l ++ [x]).getD l.length 0 = x := by
  rw [List.getD_eq_getElem?_getD, List.getElem?_append_right (Nat.le_refl _), Nat.sub_self]
  rfl
theorem win_step {r u L t t' L' K D : Int} {ats gs : List Int} (h : Win r u ats gs L t) (hr : 0 ≤ r) (ht0 : 0 ≤ t) (ht : t ≤ t') (h1 : L' ≤ L + r * (t' - t)) (h2 : L' ≤ u) (hK : 0 ≤ K) (hD : 0 ≤ D) (hKD : L' - K = D) : Win r u (ats ++ [t']) (gs ++ [K]) D t' := by
  have hlen := h.len
  have hsp : ∀ a, r * (t' - a) = r * (t - a) + r * (t' - t) := fun a => by rw [← Int.mul_add]; congr 1; omega
  have hp0 : 0 ≤ r * (t' - t) := Int.mul_nonneg hr (by omega)
  have tl : ∀ i, i < ats.length → sm (gs.drop i) + K + D ≤ u + r * (t' - ats.getD i 0) := fun i hi => by
    have := h.tail i hi
    rw [hsp]
    omega
  have dr : ∀ i, i ≤ ats.length → (gs ++ [K]).drop i = gs.drop i ++ [K] := fun i hi => List.drop_append_of_le_length (by omega)
  refine ⟨by simp [hlen], fun g hg => ?_, hD, fun i hi => ?_, fun i j hij hj => ?_, fun i hi => ?_, fun i j hij hj => ?_⟩
  · rcases List.mem_append.1 hg with h3 | h3
    · exact h.pos g h3
    · rw [List.mem_singleton.1 h3]; exact hK
  · rw [List.length_append, List.length_singleton] at hi
    rcases Nat.lt_or_eq_of_le (Nat.le_of_lt_succ hi) with h3 | h3
    · rw [getD_old _ h3]
      have := h.atl i h3
      omega
    · rw [h3, getD_new]
      omega
  · rw [List.length_append, List.length_singleton] at hj
    rcases Nat.lt_or_eq_of_le (Nat.le_of_lt_succ hj) with h3 | h3
    · rw [getD_old _ h3, getD_old _ (by omega)]
      exact h.mono i j hij h3
    · subst h3
      rw [getD_new]
      rcases Nat.lt_or_eq_of_le hij with h4 | h4
      · rw [getD_old _ h4]
        have := h.atl i h4
        omega
      · rw [h4, getD_new]
        exact Int.le_refl _
  · rw [List.length_append, List.length_singleton] at hi
    rw [dr i (by omega), sm_append]
    rcases Nat.lt_or_eq_of_le (Nat.le_of_lt_succ hi) with h3 | h3
    · rw [getD_old _ h3]
      have := tl i h3
      simp only [sm]
      omega
    · subst h3
      rw [getD_new, Int.sub_self, Int.mul_zero, hlen, List.drop_length]
      simp only [sm]
      omega
  · rw [List.length_append, List.length_singleton] at hj
    rw [dr i (by omega)]
    rcases Nat.lt_or_eq_of_le (Nat.le_of_lt_succ hj) with h3 | h3
    · rw [getD_old _ h3, getD_old _ (by omega), List.take_append_of_le_length (by rw [List.length_drop]; omega)]
      exact h.pairs i j hij h3
    · subst h3
      rw [List.take_of_length_le (by rw [List.length_append, List.length_drop, List.length_singleton]; omega), sm_append, getD_new]
      rcases Nat.lt_or_eq_of_le hij with h4 | h4
      · rw [getD_old _ h4]
        have := tl i h4
        simp only [sm]
        omega
      · subst h4
        rw [getD_new, Int.sub_self, Int.mul_zero, hlen, List.drop_length]
        simp only [sm]
        omega
/-- The sum from i on, up to j; one more. -/
theorem sm_next (gs : List Int) (i j : Nat) (hij : i ≤ j) (hj : j < gs.length) : sm ((gs.drop i).take (j + 1 - i)) = sm ((gs.drop i).take (j - i)) + gs.getD j 0 := by
  rw [show j + 1 - i = (j - i) + 1 by omega, List.take_add_one, sm_append, List.getElem?_drop, show i + (j - i) = j by omega, List.getD_eq_getElem?_getD, List.getElem?_eq_getElem hj]
  simp [sm]
theorem near_add {S g : Int} (hS : 0 ≤ S) (hg : 0 ≤ g) : near (near (near S) + near g) = near (S + g) := by
  unfold near
  (repeat' split) <;> omega
end Go.Proofs.Ytlbihcpglcdmmaa.gb

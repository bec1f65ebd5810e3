/-
  Slices that lie anywhere in a block of the call's own: cut, and appended to. Conditions: as each states.
  Mathematics of marks: ticks, each up to an end. Conditions: as each states.
  A cargo in memory: a row of bytes and a row of marks behind a pointer. Conditions: as each states.
-/
import Derived.Test.YtlbihcpglcdmmaaGreatZ3
import Derived.ArgAppend
import Derived.Deep.Upon
namespace Go.Proofs.YtlbihcpglcdmmaaGreat.gc
open Go.RowKit

/-- A slice that lies anywhere in a block of the call's own. -/
structure ORow (w : World) (base T K : Nat) (p : Option Addr) (n c : Nat) (zs : List Value) : Prop where
  len : zs.length = n * K
  cap : n ≤ c
  max : c ≤ maxLen
  non : p = none → c = 0
  som : ∀ a, p = some a → ∃ b o cur, a = ⟨b, o, none⟩ ∧ base ≤ b ∧ w.heap[b]? = some (.cells cur T (0, 0)) ∧ o + c * K ≤ cur.size ∧ ∀ j v, zs[j]? = some v → cur[o + j]? = some v
theorem orow_nil (w : World) (base T K : Nat) : ORow w base T K none 0 0 [] := ⟨by simp, Nat.le_refl _, Nat.zero_le _, fun _ => rfl, fun _ h => by cases h⟩
section
variable {w w' : World} {base T K n c : Nat} {p : Option Addr} {zs : List Value}
theorem ORow.lt (h : ORow w base T K p n c zs) : ∀ a, p = some a → base ≤ a.block ∧ a.block < w.heap.size := fun a e => by
  obtain ⟨b, o, cur, rfl, hb, hh, _⟩ := h.som a e
  exact ⟨hb, blk_lt hh⟩
theorem ORow.keep (h : ORow w base T K p n c zs) (hk : ∀ a, p = some a → w'.heap[a.block]? = w.heap[a.block]?) : ORow w' base T K p n c zs :=
  ⟨h.len, h.cap, h.max, h.non, fun a e => by
    obtain ⟨b, o, cur, rfl, hb, hh, hc⟩ := h.som a e
    exact ⟨b, o, cur, rfl, hb, (hk _ e).trans hh, hc⟩⟩
theorem ORow.on (h : ORow w base T K p n c zs) (hb : Below w.heap.size w w') : ORow w' base T K p n c zs := h.keep fun a e => hb.block _ (h.lt a e).2
theorem ORow.typed (h : ORow w base T K p n c zs) : ∀ a, p = some a → ∃ cur, w.heap[a.block]? = some (.cells cur T (0, 0)) := fun a e => by
  obtain ⟨b, o, cur, rfl, _, hh, _⟩ := h.som a e
  exact ⟨cur, hh⟩
/-- A store into a block of another kind. -/
theorem ORow.other (h : ORow w base T K p n c zs) {g : Nat} {cs : Array Value} {T' : TypeId} {fr : Nat × Nat} (hg : w.heap[g]? = some (.cells cs T' fr)) (hT : T' ≠ T) (hw : ∀ k, k ≠ g → w'.heap[k]? = w.heap[k]?) : ORow w' base T K p n c zs :=
  h.keep fun a e => hw _ fun eg => by
    obtain ⟨cur, hh⟩ := h.typed a e
    rw [eg, hg] at hh
    injection hh with hh
    injection hh with _ hT2
    exact hT hT2
theorem ORow.set (h : ORow w base T K p n c zs) {g : Nat} {cs : Array Value} {T' : TypeId} {fr : Nat × Nat} (hg : w.heap[g]? = some (.cells cs T' fr)) (hT : T' ≠ T) (i : Nat) (v : Value) : ORow (w.setCell ⟨g, i, none⟩ v) base T K p n c zs :=
  h.other hg hT fun _ hk => Below.heap_setCell _ _ _ _ hk
theorem ORow.at (h : ORow w base T K p n c zs) (hn : 0 < n) : ∃ b o, p = some ⟨b, o, none⟩ ∧ ∀ j v, zs[j]? = some v → w.cell? ⟨b, o + j, none⟩ = some v := by
  cases p with
  | none => have := h.non rfl; have := h.cap; omega
  | some a =>
    obtain ⟨b, o, cur, rfl, _, hh, _, hc⟩ := h.som a rfl
    exact ⟨b, o, rfl, fun j v hj => by simp only [World.cell?, hh]; exact hc j v hj⟩
theorem ORow.take (h : ORow w base T K p n c zs) (m : Nat) (hm : m ≤ n) : ORow w base T K p m c (zs.take (m * K)) := by
  have h1 : m * K ≤ n * K := Nat.mul_le_mul_right K hm
  refine ⟨by rw [List.length_take, h.len]; omega, Nat.le_trans hm h.cap, h.max, h.non, fun a e => ?_⟩
  obtain ⟨b, o, cur, rfl, hb, hh, hs, hc⟩ := h.som a e
  refine ⟨b, o, cur, rfl, hb, hh, hs, fun j v hj => hc j v ?_⟩
  rw [List.getElem?_take] at hj
  split at hj
  · exact hj
  · cases hj
theorem ORow.drop (h : ORow w base T K p n c zs) (m : Nat) (hm : m ≤ n) : ORow w base T K (if c = m then p else p.map (·.add (m * K))) (n - m) (c - m) (zs.drop (m * K)) := by
  have hmc := Nat.le_trans hm h.cap
  have h1 : (n - m) * K = n * K - m * K := Nat.sub_mul n m K
  have h2 : (c - m) * K = c * K - m * K := Nat.sub_mul c m K
  have h3 : m * K ≤ c * K := Nat.mul_le_mul_right K hmc
  refine ⟨by rw [List.length_drop, h.len, h1], by have := h.cap; omega, Nat.le_trans (Nat.sub_le _ _) h.max, fun e => ?_, fun a e => ?_⟩
  · by_cases hc : c = m
    · omega
    · rw [if_neg hc] at e
      cases p with
      | none => rw [h.non rfl]; omega
      | some a => cases e
  · by_cases hc : c = m
    · rw [if_pos hc] at e
      obtain ⟨b, o, cur, rfl, hb, hh, hs, hc'⟩ := h.som a e
      refine ⟨b, o, cur, rfl, hb, hh, by rw [hc, Nat.sub_self, Nat.zero_mul]; omega, fun j v hj => ?_⟩
      rw [List.drop_eq_nil_of_le (by rw [h.len, show n = m by have := h.cap; omega]; exact Nat.le_refl _)] at hj
      cases hj
    · rw [if_neg hc] at e
      cases p with
      | none => cases e
      | some a' =>
        obtain ⟨b, o, cur, rfl, hb, hh, hs, hc'⟩ := h.som a' rfl
        rw [Option.map_some, WideShapes.add_plain] at e
        cases e
        refine ⟨b, o + m * K, cur, rfl, hb, hh, by omega, fun j v hj => ?_⟩
        rw [List.getElem?_drop] at hj
        rw [Nat.add_assoc]
        exact hc' _ v hj
end
/-- A row of the call's own that was just made. -/
theorem orow_of_own {w : World} {base T K n d : Nat} {q : Option Addr} {zs : List Value} (h : w.ownsRow base T K (.slice q n d) n zs) : ORow w base T K q n d zs := by
  obtain ⟨hl, ⟨e, h0⟩ | ⟨g, cap, cur, e, hb, hh, h1, h2, h3, h4⟩⟩ := h
  · cases e
    exact ⟨hl, Nat.le_refl _, Nat.zero_le _, fun _ => rfl, fun _ h => by cases h⟩
  · cases e
    refine ⟨hl, h1, h2, (fun e => by cases e), fun a e => ?_⟩
    cases e
    refine ⟨g, 0, cur, rfl, hb, hh, by omega, fun j v hj => ?_⟩
    rw [← h4, List.getElem?_take] at hj
    split at hj
    · rw [Nat.zero_add]; simpa using hj
    · cases hj
theorem own_slice {w : World} {base T K n : Nat} {v : Value} {zs : List Value} (h : w.ownsRow base T K v n zs) : ∃ q d, v = .slice q n d ∧ ∀ a, q = some a → base ≤ a.block ∧ a.block < w.heap.size := by
  obtain ⟨hl, ⟨rfl, rfl⟩ | ⟨g, cap, cur, rfl, hb, hh, h1, h2, h3, h4⟩⟩ := h
  · exact ⟨none, 0, rfl, fun _ h => by cases h⟩
  · exact ⟨_, cap, rfl, fun a e => by cases e; exact ⟨hb, blk_lt hh⟩⟩
theorem setCells_blk {b : Nat} {T : TypeId} {fr : Nat × Nat} (vs : List Value) : ∀ (o : Nat) (w : World) (cur : Array Value), w.heap[b]? = some (.cells cur T fr) → ∃ cur' : Array Value, (w.setCells b o vs).heap[b]? = some (.cells cur' T fr) ∧ cur'.size = cur.size := by
  induction vs with
  | nil => exact fun o w cur h => ⟨cur, h, rfl⟩
  | cons v r ih =>
    intro o w cur h
    obtain ⟨cur', h1, h2⟩ := ih (o + 1) (w.setCell ⟨b, o, none⟩ v) _ (set_heap h v)
    exact ⟨cur', h1, by simpa using h2⟩
theorem setCells_grown (w : World) (b o : Nat) (vs : List Value) : w.grownBy (w.setCells b o vs) (some b) := by
  have hs : ∀ (vs : List Value) (o : Nat) (w : World), (w.setCells b o vs).tape = w.tape ∧ (w.setCells b o vs).heap.size = w.heap.size := by
    intro vs
    induction vs with
    | nil => exact fun _ _ => ⟨rfl, rfl⟩
    | cons v r ih => exact fun o w => ⟨(ih (o + 1) _).1, (ih (o + 1) _).2.trans (by simp [World.setCell])⟩
  exact ⟨World.os_setCells w b o vs, (hs vs o w).1, World.output_setCells w b o vs, Nat.le_of_eq (hs vs o w).2.symm, fun k hk hne => World.heap_setCells_other w b o vs hk fun e => hne (by rw [e])⟩
/-- One more run of cells behind such a slice: in its own block, where there is room, else in a new one. -/
theorem app_row {w : World} {base T K n c : Nat} {p : Option Addr} {zs : List Value} (ho : ORow w base T K p n c zs) (hbase : base ≤ w.heap.size) {t : TypeId} {i0 : TypeInfo} {z : Value} {by0 : Nat} (ht : Tryz.prog.underlying t = some (.slice T)) (hi : Tryz.prog.info? T = some i0) (hz : i0.zero = some z)
    (h1 : i0.size = K) (h2 : i0.bytes = by0) (h3 : z.cells.size = K) (hK : 0 < K) {a : Addr} {m d : Nat} {news : List Value} (hl : news.length = m * K) (hnews : ∀ j u, news[j]? = some u → w.cell? (a.add j) = some u) (hone : ∀ u ∈ news, u.oneCell' = true)
    (hmax : n + m ≤ maxLen) (hbytes : (n + m) * by0 ≤ 140737488355328) :
    ∃ q e w', (∀ ty, (Builtin.append_ #[t, t] ty #[.slice p n c, .slice (some a) m d]).run Tryz.prog w = .ok (.slice q (n + m) e) w') ∧ ORow w' base T K q (n + m) e (zs ++ news) ∧ w.grownBy w' (p.map (·.block)) ∧ ∀ x, q = some x → p.map (·.block) = some x.block ∨ w.heap.size ≤ x.block := by
  cases p with
  | none =>
    obtain rfl : c = 0 := ho.non rfl
    obtain rfl : n = 0 := by have := ho.cap; omega
    obtain rfl : zs = [] := List.eq_nil_of_length_eq_zero (by rw [ho.len, Nat.zero_mul])
    obtain ⟨v', w', r1, r2, r3, _⟩ := run_append_own w w.heap.size t 0 T i0 z K by0 ht hi hz h1 h2 h3 hK (.slice none 0 0) 0 [] (World.ownsRow_nil _ _ _ _) a m d news hl hnews hone hmax hbytes (Nat.le_refl _)
    obtain ⟨q, e, rfl, hq⟩ := own_slice r2
    refine ⟨q, e, w', fun ty => ?_, orow_of_own (own_low r2 hbase), r3, fun x hx => Or.inr (hq x hx).1⟩
    rw [← r1]
    rfl
  | some a0 =>
    obtain ⟨b, o, cur, rfl, hb, hh, hs, hc⟩ := ho.som a0 rfl
    have hlen : (zs ++ news).length = (n + m) * K := by rw [List.length_append, ho.len, hl, Nat.add_mul]
    by_cases hroom : n + m ≤ c
    · have hfit : (n + m) * K ≤ c * K := Nat.mul_le_mul_right K hroom
      have hfit2 : o + n * K + news.length ≤ cur.size := by rw [hl]; rw [Nat.add_mul] at hfit; omega
      have hcell : ∀ j, j < news.length → (w.cell? ⟨b, o + n * K + j, none⟩).isSome = true := fun j hj => by
        simp only [World.cell?, hh]
        rw [Array.getElem?_eq_getElem (by omega)]
        rfl
      have hfro : ∀ j, j < news.length → w.frozen? ⟨b, o + n * K + j, none⟩ = false := fun j hj => frozen_at hh
      subst h1
      have hr := fun ty => run_append_room_cells (P := Tryz.prog) w t ty T i0 ht hi b o n c a m d news hl hnews hone hroom hcell hfro
      obtain ⟨cur', hh', hs'⟩ := setCells_blk news (o + n * i0.size) w cur hh
      refine ⟨_, c, _, hr, ⟨hlen, hroom, ho.max, (fun e => by cases e), fun x e => ?_⟩, setCells_grown _ _ _ _, fun x e => Or.inl (by cases e; rfl)⟩
      cases e
      refine ⟨b, o, cur', rfl, hb, hh', by omega, fun j v hj => ?_⟩
      have key : (w.setCells b (o + n * i0.size) news).cell? ⟨b, o + j, none⟩ = some v := by
        rcases Nat.lt_or_ge j (n * i0.size) with hjn | hjn
        · rw [World.cell?_setCells_out _ _ _ _ _ (fun _ _ => Or.inl (by show o + j < o + n * i0.size; omega))]
          rw [List.getElem?_append_left (by rw [ho.len]; exact hjn)] at hj
          simp only [World.cell?, hh]
          exact hc j v hj
        · rw [List.getElem?_append_right (by rw [ho.len]; exact hjn), ho.len] at hj
          have hjl := (List.getElem?_eq_some_iff.1 hj).1
          have := World.cell?_setCells_in b news (o + n * i0.size) w hcell (j - n * i0.size) hjl
          rw [show o + n * i0.size + (j - n * i0.size) = o + j by omega] at this
          rw [this, ← hj, List.getElem?_eq_getElem hjl]
      simp only [World.cell?, hh'] at key
      exact key
    · obtain ⟨v', w', r1, r2, r3⟩ := run_append_arg_grows w t 0 T i0 z K by0 ht hi hz h1 h2 h3 hK ⟨b, o, none⟩ n c zs ho.len (fun j u hj => by rw [WideShapes.add_plain]; simp only [World.cell?, hh]; exact hc j u hj) a m d news hl hnews (by omega) hmax hbytes
      obtain ⟨q, e, rfl, hq⟩ := own_slice r2
      refine ⟨q, e, w', fun ty => ?_, orow_of_own (own_low r2 hbase), ⟨r3.os, r3.tape, r3.output, r3.size, fun k hk _ => r3.block k hk (by simp)⟩, fun x hx => Or.inr (hq x hx).1⟩
      rw [← r1]
      rfl
end Go.Proofs.YtlbihcpglcdmmaaGreat.gc
namespace Go.Proofs.YtlbihcpglcdmmaaGreat.gc

abbrev Mk := Int × Nat
def noMk : Mk := (0, 0)
/-- The ticks of the bytes from f on. -/
def tksM : Nat → List Mk → List Int
  | _, [] => []
  | f, m :: r => List.replicate (m.2 - f) m.1 ++ tksM m.2 r
/-- The ends rise, from f up to e. -/
def EndsM : Nat → List Mk → Nat → Prop
  | f, [], e => f = e
  | f, m :: r, e => f < m.2 ∧ EndsM m.2 r e
/-- The ticks rise. -/
def Rise (ms : List Mk) : Prop := ms.Pairwise fun x y => x.1 < y.1
/-- Where the first k of them end. -/
def endAt (f : Nat) (ms : List Mk) (k : Nat) : Nat := if k = 0 then f else (ms.getD (k - 1) noMk).2
theorem ends_le {ms : List Mk} {f e : Nat} (h : EndsM f ms e) : f ≤ e := by
  induction ms generalizing f with
  | nil => exact Nat.le_of_eq h
  | cons m r ih => exact Nat.le_trans (Nat.le_of_lt h.1) (ih h.2)
theorem ends_lt {ms : List Mk} {f e : Nat} (h : EndsM f ms e) (h0 : ms ≠ []) : f < e := by
  cases ms with
  | nil => exact absurd rfl h0
  | cons m r => exact Nat.lt_of_lt_of_le h.1 (ends_le h.2)
theorem ends_append {l r : List Mk} {f e : Nat} : EndsM f (l ++ r) e ↔ ∃ y, EndsM f l y ∧ EndsM y r e := by
  induction l generalizing f with
  | nil => exact ⟨fun h => ⟨f, rfl, h⟩, fun ⟨y, h1, h2⟩ => by rw [show f = y from h1]; exact h2⟩
  | cons m l ih =>
    constructor
    · intro h
      obtain ⟨y, h1, h2⟩ := ih.1 h.2
      exact ⟨y, ⟨h.1, h1⟩, h2⟩
    · rintro ⟨y, h1, h2⟩
      exact ⟨h1.1, ih.2 ⟨y, h1.2, h2⟩⟩
theorem ends_inj {ms : List Mk} {f e e' : Nat} (h : EndsM f ms e) (h' : EndsM f ms e') : e = e' := by
  induction ms generalizing f with
  | nil => exact (show f = e from h).symm.trans h'
  | cons m r ih => exact ih h.2 h'.2
theorem tks_append {l : List Mk} {f y : Nat} (h : EndsM f l y) (r : List Mk) : tksM f (l ++ r) = tksM f l ++ tksM y r := by
  induction l generalizing f with
  | nil => rw [show f = y from h]; rfl
  | cons m l ih =>
    show List.replicate _ _ ++ tksM m.2 (l ++ r) = _
    rw [ih h.2, ← List.append_assoc]
    rfl
theorem tks_len {ms : List Mk} {f e : Nat} (h : EndsM f ms e) : (tksM f ms).length = e - f := by
  induction ms generalizing f with
  | nil => rw [show f = e from h]; simp [tksM]
  | cons m r ih =>
    have := ends_le h.2
    have := h.1
    show (List.replicate (m.2 - f) m.1 ++ tksM m.2 r).length = _
    rw [List.length_append, List.length_replicate, ih h.2]
    omega
theorem mem_tks {ms : List Mk} {f : Nat} {x : Int} (h : x ∈ tksM f ms) : ∃ m ∈ ms, m.1 = x := by
  induction ms generalizing f with
  | nil => cases h
  | cons m r ih =>
    rcases List.mem_append.1 h with h | h
    · exact ⟨m, List.mem_cons_self, (List.eq_of_mem_replicate h).symm⟩
    · obtain ⟨m', h1, h2⟩ := ih h
      exact ⟨m', List.mem_cons_of_mem _ h1, h2⟩
theorem ends_at {ms : List Mk} {f e : Nat} (h : EndsM f ms e) (k : Nat) (hk : k ≤ ms.length) : EndsM f (ms.take k) (endAt f ms k) ∧ EndsM (endAt f ms k) (ms.drop k) e := by
  induction ms generalizing f k with
  | nil =>
    obtain rfl : k = 0 := by simpa using hk
    exact ⟨rfl, h⟩
  | cons m r ih =>
    cases k with
    | zero => exact ⟨rfl, h⟩
    | succ k =>
      have hh := ih h.2 k (by simpa using hk)
      have e1 : endAt f (m :: r) (k + 1) = endAt m.2 r k := by
        unfold endAt
        cases k with
        | zero => rfl
        | succ j => rfl
      rw [e1]
      exact ⟨⟨h.1, hh.1⟩, hh.2⟩
theorem end_all {ms : List Mk} {f e : Nat} (h : EndsM f ms e) : endAt f ms ms.length = e := by
  have := (ends_at h ms.length (Nat.le_refl _)).2
  rw [List.drop_length] at this
  exact this
theorem end_bounds {ms : List Mk} {f e : Nat} (h : EndsM f ms e) (k : Nat) (hk : k ≤ ms.length) : f ≤ endAt f ms k ∧ endAt f ms k ≤ e :=
  ⟨ends_le (ends_at h k hk).1, ends_le (ends_at h k hk).2⟩
theorem mk_split (ms : List Mk) (k : Nat) (hk : k < ms.length) : ms.drop k = ms.getD k noMk :: ms.drop (k + 1) := by
  rw [List.drop_eq_getElem_cons hk, List.getD_eq_getElem?_getD, List.getElem?_eq_getElem hk]
  rfl
theorem end_step {ms : List Mk} {f e : Nat} (h : EndsM f ms e) (k : Nat) (hk : k < ms.length) : endAt f ms (k + 1) = (ms.getD k noMk).2 ∧ endAt f ms k < (ms.getD k noMk).2 := by
  refine ⟨rfl, ?_⟩
  have := (ends_at h k (Nat.le_of_lt hk)).2
  rw [mk_split ms k hk] at this
  exact this.1

/-! Ready. -/
theorem ready_rep (n : Nat) (a x : Int) (B : List Int) (h : a ≤ x) : readyN (List.replicate n a ++ B) x = n + readyN B x := by
  induction n with
  | zero => simp
  | succ n ih =>
    have : readyN (a :: (List.replicate n a ++ B)) x = readyN (List.replicate n a ++ B) x + 1 := by simp [readyN, h]
    rw [List.replicate_succ, List.cons_append, this, ih]
    omega
theorem ready_stop (a x : Int) (B : List Int) (h : x < a) : readyN (a :: B) x = 0 := by
  have : ¬ a ≤ x := by omega
  simp [readyN, this]
theorem ready_tks {ms : List Mk} {f e : Nat} (h : EndsM f ms e) (x : Int) : readyN (tksM f ms) x = endAt f ms (readyN (ms.map Prod.fst) x) - f := by
  induction ms generalizing f with
  | nil => simp [tksM, readyN, endAt]
  | cons m r ih =>
    by_cases hx : m.1 ≤ x
    · have e1 : readyN (List.map Prod.fst (m :: r)) x = readyN (r.map Prod.fst) x + 1 := by simp [readyN, hx]
      have e2 : endAt f (m :: r) (readyN (r.map Prod.fst) x + 1) = endAt m.2 r (readyN (r.map Prod.fst) x) := by
        unfold endAt
        cases readyN (r.map Prod.fst) x with
        | zero => rfl
        | succ j => rfl
      have hb := (end_bounds h.2 (readyN (r.map Prod.fst) x) (by have := ready_le (r.map Prod.fst) x; simpa using this)).1
      rw [e1, e2]
      show readyN (List.replicate _ _ ++ tksM m.2 r) x = _
      rw [ready_rep _ _ _ _ hx, ih h.2]
      have := h.1
      omega
    · have e1 : readyN (List.map Prod.fst (m :: r)) x = 0 := by rw [List.map_cons]; exact ready_stop _ _ _ (by omega)
      rw [e1]
      show readyN (List.replicate (m.2 - f) m.1 ++ tksM m.2 r) x = f - f
      obtain ⟨j, hj⟩ : ∃ j, m.2 - f = j + 1 := ⟨m.2 - f - 1, by have := h.1; omega⟩
      rw [hj, List.replicate_succ, List.cons_append, ready_stop _ _ _ (by omega)]
      omega
/-- Marks' ticks rise: those behind the ready ones are later. -/
theorem rise_ready {ms : List Mk} (h : Rise ms) (x : Int) (k : Nat) (hk : k < ms.length) : decide (x < (ms.getD k noMk).1) = decide (readyN (ms.map Prod.fst) x ≤ k) := by
  have e : ∀ j, j < ms.length → (ms.map Prod.fst).getD j 0 = (ms.getD j noMk).1 := fun j hj => by
    simp [List.getD_eq_getElem?_getD, List.getElem?_eq_getElem hj]
  rcases Nat.lt_or_ge k (readyN (ms.map Prod.fst) x) with hlt | hge
  · have := ready_yes hlt
    rw [e k hk] at this
    have h1 : ¬ x < (ms.getD k noMk).1 := by omega
    have h2 : ¬ readyN (ms.map Prod.fst) x ≤ k := by omega
    rw [decide_eq_false h1, decide_eq_false h2]
  · have hn := ready_no (A := ms.map Prod.fst) (x := x) (by rw [List.length_map]; omega)
    rw [e _ (by omega)] at hn
    have h1 : x < (ms.getD k noMk).1 := by
      rcases Nat.lt_or_ge (readyN (ms.map Prod.fst) x) k with h3 | h3
      · have h4 := List.pairwise_iff_getElem.1 h (readyN (ms.map Prod.fst) x) k (by omega) hk h3
        simp only [List.getD_eq_getElem?_getD, List.getElem?_eq_getElem hk, List.getElem?_eq_getElem (show readyN (ms.map Prod.fst) x < ms.length by omega), Option.getD_some] at hn ⊢
        omega
      · rw [show k = readyN (ms.map Prod.fst) x by omega]
        exact hn
    rw [decide_eq_true h1, decide_eq_true hge]

/-! Take. -/
/-- How many marks end at K, or ahead of it. -/
def overM (ms : List Mk) (K : Nat) : Nat := readyN (ms.map fun m => (m.2 : Int)) (K : Int)
theorem over_le (ms : List Mk) (K : Nat) : overM ms K ≤ ms.length := by have := ready_le (ms.map fun m => (m.2 : Int)) (K : Int); rw [List.length_map] at this; exact this
theorem over_at (ms : List Mk) (j : Nat) (hj : j < ms.length) : (ms.map fun m => (m.2 : Int)).getD j 0 = ((ms.getD j noMk).2 : Int) := by
  simp [List.getD_eq_getElem?_getD, List.getElem?_eq_getElem hj]
theorem over_yes {ms : List Mk} {K j : Nat} (h : j < overM ms K) : (ms.getD j noMk).2 ≤ K := by
  have h1 := ready_yes h
  rw [over_at ms j (Nat.lt_of_lt_of_le h (over_le ms K))] at h1
  omega
theorem over_no {ms : List Mk} {K : Nat} (h : overM ms K < ms.length) : K < (ms.getD (overM ms K) noMk).2 := by
  have h1 := ready_no (A := ms.map fun m => (m.2 : Int)) (x := (K : Int)) (by rw [List.length_map]; exact h)
  have h2 := over_at ms _ h
  unfold overM at h2 h ⊢
  rw [h2] at h1
  omega
theorem over_tks {ms : List Mk} {f e K : Nat} (h : EndsM f ms e) (h0 : f ≤ K) (h1 : K ≤ e) : EndsM K (ms.drop (overM ms K)) e ∧ tksM K (ms.drop (overM ms K)) = (tksM f ms).drop (K - f) := by
  induction ms generalizing f with
  | nil =>
    have : f = e := h
    obtain rfl : K = e := by omega
    refine ⟨rfl, ?_⟩
    simp [overM, readyN, tksM]
  | cons m r ih =>
    by_cases hm : m.2 ≤ K
    · have e1 : overM (m :: r) K = overM r K + 1 := by
        have : (m.2 : Int) ≤ (K : Int) := by omega
        simp [overM, readyN, this]
      obtain ⟨i1, i2⟩ := ih h.2 hm
      rw [e1]
      refine ⟨i1, ?_⟩
      show tksM K (r.drop (overM r K)) = (List.replicate (m.2 - f) m.1 ++ tksM m.2 r).drop (K - f)
      have := h.1
      rw [i2, show K - f = (m.2 - f) + (K - m.2) by omega, ← List.drop_drop, List.drop_left' (by simp)]
    · have e1 : overM (m :: r) K = 0 := by unfold overM; rw [List.map_cons]; exact ready_stop _ _ _ (by omega)
      rw [e1]
      refine ⟨⟨by omega, h.2⟩, ?_⟩
      show List.replicate (m.2 - K) m.1 ++ tksM m.2 r = (List.replicate (m.2 - f) m.1 ++ tksM m.2 r).drop (K - f)
      rw [List.drop_append_of_le_length (by simp; omega), List.drop_replicate, show m.2 - f - (K - f) = m.2 - K by omega]

/-! One mark more. -/
/-- Where a mark is laid: in place of the last one, if that is of the same tick, and ends there. -/
def layK (ms : List Mk) (t : Int) (y : Nat) : Nat := if ms.getLast? = some (t, y) then ms.length - 1 else ms.length
theorem layK_le (ms : List Mk) (t : Int) (y : Nat) : layK ms t y ≤ ms.length := by unfold layK; split <;> omega
def layM (ms : List Mk) (t : Int) (y e : Nat) : List Mk := ms.take (layK ms t y) ++ [(t, e)]
theorem tks_one (f e : Nat) (t : Int) : tksM f [(t, e)] = List.replicate (e - f) t := by simp [tksM]
theorem lay_all {ms : List Mk} {f y e : Nat} {t : Int} (h : EndsM f ms y) (hy : y < e) (hr : Rise ms) (ht : ∀ m ∈ ms, m.1 ≤ t) :
    EndsM f (layM ms t y e) e ∧ tksM f (layM ms t y e) = tksM f ms ++ List.replicate (e - y) t ∧ Rise (layM ms t y e) ∧ ∀ m ∈ layM ms t y e, m ∈ ms ∨ m = (t, e) := by
  unfold layM layK
  split
  · rename_i hl
    obtain ⟨l, rfl⟩ := List.getLast?_eq_some_iff.1 hl
    rw [show (l ++ [((t, y) : Mk)]).take ((l ++ [((t, y) : Mk)]).length - 1) = l by simp]
    obtain ⟨z, h1, h2⟩ := ends_append.1 h
    have hz : z < y := h2.1
    have hp := List.pairwise_append.1 hr
    refine ⟨ends_append.2 ⟨z, h1, ⟨by show z < e; omega, rfl⟩⟩, ?_, ?_, ?_⟩
    · rw [tks_append h1, tks_append h1, tks_one, tks_one, List.append_assoc, List.replicate_append_replicate, show y - z + (e - y) = e - z by omega]
    · exact List.pairwise_append.2 ⟨hp.1, List.pairwise_singleton _ _, fun a ha b hb => by
        rw [List.mem_singleton.1 hb]
        exact hp.2.2 a ha (t, y) (by simp)⟩
    · intro m hm
      rcases List.mem_append.1 hm with hm | hm
      · exact Or.inl (List.mem_append_left _ hm)
      · exact Or.inr (List.mem_singleton.1 hm)
  · rename_i hl
    rw [List.take_length]
    refine ⟨ends_append.2 ⟨y, h, ⟨hy, rfl⟩⟩, by rw [tks_append h, tks_one], ?_, ?_⟩
    · refine List.pairwise_append.2 ⟨hr, List.pairwise_singleton _ _, fun a ha b hb => ?_⟩
      rw [List.mem_singleton.1 hb]
      show a.1 < t
      have hle := ht a ha
      rcases Int.lt_or_eq_of_le hle with h3 | h3
      · exact h3
      · exfalso
        obtain ⟨l, d, rfl⟩ : ∃ l d, ms = l ++ [d] := by
          rcases List.eq_nil_or_concat ms with h0 | ⟨l, d, h0⟩
          · subst h0; cases ha
          · exact ⟨l, d, by simpa using h0⟩
        obtain ⟨z, h1, h2⟩ := ends_append.1 h
        have hd : d.2 = y := h2.2
        have hne : d.1 ≠ t := fun e0 => hl (by
          rw [List.getLast?_concat]
          congr 1
          exact Prod.ext e0 hd)
        have hdt := ht d (by simp)
        rcases List.mem_append.1 ha with h4 | h4
        · have := (List.pairwise_append.1 hr).2.2 a h4 d (by simp)
          omega
        · rw [List.mem_singleton.1 h4] at h3
          exact hne h3
    · intro m hm
      rcases List.mem_append.1 hm with hm | hm
      · exact Or.inl hm
      · exact Or.inr (List.mem_singleton.1 hm)

/-! Hurry. -/
theorem lows_of {t : Int} {A : List Int} (h : ∀ x ∈ A, x ≤ t) : lows t A = A := by
  unfold lows
  conv => rhs; rw [← List.map_id A]
  refine List.map_congr_left fun x hx => ?_
  have := h x hx
  unfold low
  split
  · simp; omega
  · rfl
theorem lows_rep {t : Int} {A : List Int} (h : ∀ x ∈ A, t < x) : lows t A = List.replicate A.length t := by
  induction A with
  | nil => rfl
  | cons a r ih =>
    have h1 := h a (by simp)
    show low t a :: lows t r = _
    rw [ih fun x hx => h x (by simp [hx]), List.length_cons, List.replicate_succ]
    unfold low
    rw [if_pos h1]
theorem take_le_t {ms : List Mk} {t : Int} : ∀ m ∈ ms.take (readyN (ms.map Prod.fst) t), m.1 ≤ t := by
  induction ms with
  | nil => intro m hm; simp at hm
  | cons a r ih =>
    intro m hm
    by_cases ha : a.1 ≤ t
    · have e1 : readyN (List.map Prod.fst (a :: r)) t = readyN (r.map Prod.fst) t + 1 := by simp [readyN, ha]
      rw [e1, List.take_succ_cons] at hm
      rcases List.mem_cons.1 hm with h | h
      · rw [h]; exact ha
      · exact ih m h
    · have e1 : readyN (List.map Prod.fst (a :: r)) t = 0 := by rw [List.map_cons]; exact ready_stop _ _ _ (by omega)
      rw [e1] at hm
      cases hm
theorem drop_gt_t {ms : List Mk} {t : Int} (hr : Rise ms) : ∀ m ∈ ms.drop (readyN (ms.map Prod.fst) t), t < m.1 := by
  induction ms with
  | nil => intro m hm; simp at hm
  | cons a r ih =>
    have hp := List.pairwise_cons.1 hr
    intro m hm
    by_cases ha : a.1 ≤ t
    · have e1 : readyN (List.map Prod.fst (a :: r)) t = readyN (r.map Prod.fst) t + 1 := by simp [readyN, ha]
      rw [e1, List.drop_succ_cons] at hm
      exact ih hp.2 m hm
    · have e1 : readyN (List.map Prod.fst (a :: r)) t = 0 := by rw [List.map_cons]; exact ready_stop _ _ _ (by omega)
      rw [e1] at hm
      rcases List.mem_cons.1 hm with h | h
      · rw [h]; omega
      · have := hp.1 m h
        omega
theorem hurry_none {ms : List Mk} {f : Nat} {t : Int} (hk : readyN (ms.map Prod.fst) t = ms.length) : lows t (tksM f ms) = tksM f ms := lows_of fun x hx => by
  obtain ⟨m, h1, rfl⟩ := mem_tks hx
  have := take_le_t (ms := ms) (t := t)
  rw [hk, List.take_length] at this
  exact this m h1
theorem hurry_some {ms : List Mk} {f e k y : Nat} {t : Int} (h : EndsM f ms e) (hr : Rise ms) (hk : readyN (ms.map Prod.fst) t = k) (hlt : k < ms.length) (hy : endAt f ms k = y) :
    y < e ∧ EndsM f (layM (ms.take k) t y e) e ∧ tksM f (layM (ms.take k) t y e) = lows t (tksM f ms) ∧ Rise (layM (ms.take k) t y e) ∧ ∀ m ∈ layM (ms.take k) t y e, m ∈ ms.take k ∨ m = (t, e) := by
  obtain ⟨h1, h2⟩ := ends_at h k (Nat.le_of_lt hlt)
  rw [hy] at h1 h2
  have hye : y < e := ends_lt h2 (by rw [mk_split ms k hlt]; simp)
  have ht1 := take_le_t (ms := ms) (t := t)
  have ht2 := drop_gt_t (t := t) hr
  rw [hk] at ht1 ht2
  obtain ⟨a, b, c, d⟩ := lay_all (t := t) h1 hye (List.Pairwise.sublist (List.take_sublist k ms) hr) ht1
  refine ⟨hye, a, ?_, c, d⟩
  rw [b]
  conv => rhs; rw [← List.take_append_drop k ms, tks_append h1]
  have hb1 : lows t (tksM f (ms.take k)) = tksM f (ms.take k) := lows_of fun x hx => by
    obtain ⟨m, h3, rfl⟩ := mem_tks hx
    exact ht1 m h3
  have hb2 : lows t (tksM y (ms.drop k)) = List.replicate (e - y) t := by
    rw [lows_rep (fun x hx => by
      obtain ⟨m, h3, rfl⟩ := mem_tks hx
      exact ht2 m h3), tks_len h2]
  unfold lows at hb1 hb2 ⊢
  rw [List.map_append, hb1, hb2]

/-! List. -/
/-- The pieces of bytes from f on; the bytes' first place is G. -/
def pcsM (G : Nat) (S : ByteArray) : Nat → List Mk → List Pc
  | _, [] => []
  | f, m :: r => (m.1, S.extract (f - G) (m.2 - G)) :: pcsM G S m.2 r
theorem pcs_len (G : Nat) (S : ByteArray) (f : Nat) (ms : List Mk) : (pcsM G S f ms).length = ms.length := by
  induction ms generalizing f with
  | nil => rfl
  | cons m r ih => show (pcsM G S m.2 r).length + 1 = _; rw [ih]; rfl
theorem pcs_all {G : Nat} {S : ByteArray} {ms : List Mk} {f e : Nat} (h : EndsM f ms e) (hG : G ≤ f) (he : e = G + S.size) (hr : Rise ms) :
    bytesOf' (pcsM G S f ms) = (nums S).drop (f - G) ∧ tkOf (pcsM G S f ms) = tksM f ms ∧ (∀ p ∈ pcsM G S f ms, 0 < p.2.size) ∧ ∀ x, (∀ m ∈ ms, x < m.1) → ∀ p ∈ pcsM G S f ms, x < p.1 := by
  induction ms generalizing f with
  | nil =>
    have : f = e := h
    refine ⟨?_, rfl, fun p hp => (by cases hp), fun _ _ p hp => (by cases hp)⟩
    rw [List.drop_eq_nil_of_le (by rw [nums_length]; omega)]
    rfl
  | cons m r ih =>
    have h1 := h.1
    have h2 := ends_le h.2
    obtain ⟨i1, i2, i3, i4⟩ := ih h.2 (by omega) (List.pairwise_cons.1 hr).2
    have hsz : (S.extract (f - G) (m.2 - G)).size = m.2 - f := by rw [ByteArray.size_extract]; omega
    refine ⟨?_, ?_, ?_, ?_⟩
    · show nums (S.extract (f - G) (m.2 - G)) ++ bytesOf' (pcsM G S m.2 r) = _
      rw [i1, ext_nums, show m.2 - G = (f - G) + (m.2 - G - (f - G)) by omega, ← List.drop_drop, show f - G + (m.2 - G - (f - G)) - (f - G) = m.2 - G - (f - G) by omega, List.take_append_drop]
    · show List.replicate (S.extract (f - G) (m.2 - G)).size m.1 ++ tkOf (pcsM G S m.2 r) = List.replicate (m.2 - f) m.1 ++ tksM m.2 r
      rw [i2, hsz]
    · intro p hp
      rcases List.mem_cons.1 hp with h3 | h3
      · rw [h3]
        show 0 < (S.extract (f - G) (m.2 - G)).size
        omega
      · exact i3 p h3
    · intro x hx p hp
      rcases List.mem_cons.1 hp with h3 | h3
      · rw [h3]; exact hx m (by simp)
      · exact i4 x (fun m' hm' => hx m' (by simp [hm'])) p h3
theorem pcs_good {G : Nat} {S : ByteArray} {ms : List Mk} {f e : Nat} (h : EndsM f ms e) (hG : G ≤ f) (he : e = G + S.size) (hr : Rise ms) : Good (pcsM G S f ms) := by
  refine ⟨(pcs_all h hG he hr).2.2.1, ?_⟩
  induction ms generalizing f with
  | nil => exact List.Pairwise.nil
  | cons m r ih =>
    have hp := List.pairwise_cons.1 hr
    have h1 := h.1
    exact List.pairwise_cons.2 ⟨(pcs_all h.2 (by omega) he hp.2).2.2.2 m.1 hp.1, ih h.2 (by omega) hp.2⟩
theorem pcs_runs {G : Nat} {S : ByteArray} {ms : List Mk} {A : List Int} (h : EndsM G ms (G + S.size)) (hr : Rise ms) (hA : tksM G ms = A) (hU : Up A) : pcsM G S G ms = runsK S A S.size := by
  have hl : A.length = S.size := by rw [← hA, tks_len h]; omega
  have hq := runs_all S A S.size rfl hl S.size (Nat.le_refl _)
  obtain ⟨p1, p2, _⟩ := pcs_all h (Nat.le_refl _) rfl hr
  refine runs_unique (pcs_good h (Nat.le_refl _) rfl hr) (hq.2.2.2.2 hU) ?_ ?_
  · rw [p1, hq.1, Nat.sub_self, List.drop_zero, ← nums_length, List.take_length]
  · rw [p2, hA, hq.2.1, ← hl, List.take_length]
theorem pcs_step {G : Nat} {S : ByteArray} {ms : List Mk} {f e : Nat} (h : EndsM f ms e) (k : Nat) (hk : k < ms.length) :
    (pcsM G S f ms).take (k + 1) = (pcsM G S f ms).take k ++ [((ms.getD k noMk).1, S.extract (endAt f ms k - G) ((ms.getD k noMk).2 - G))] := by
  induction ms generalizing f k with
  | nil => cases hk
  | cons m r ih =>
    cases k with
    | zero => rfl
    | succ k =>
      have e1 : endAt f (m :: r) (k + 1) = endAt m.2 r k := by
        unfold endAt
        cases k with
        | zero => rfl
        | succ j => rfl
      rw [e1]
      show _ :: (pcsM G S m.2 r).take (k + 1) = _ :: ((pcsM G S m.2 r).take k ++ _)
      rw [ih h.2 k (by simpa using hk)]
      rfl
/-- The ticks of marks do not fall. -/
theorem tks_up {ms : List Mk} {f : Nat} (hr : Rise ms) : Up (tksM f ms) := by
  induction ms generalizing f with
  | nil => exact List.Pairwise.nil
  | cons m r ih =>
    have hp := List.pairwise_cons.1 hr
    refine List.pairwise_append.2 ⟨List.pairwise_replicate.2 (Or.inr (Int.le_refl _)), ih hp.2, fun a ha b hb => ?_⟩
    rw [List.eq_of_mem_replicate ha]
    obtain ⟨m', h1, rfl⟩ := mem_tks hb
    exact Int.le_of_lt (hp.1 m' h1)
/-- The first byte's tick. -/
theorem tks_first {ms : List Mk} {f e : Nat} (h : EndsM f ms e) : (tksM f ms).getD 0 0 = (ms.getD 0 noMk).1 ∧ (0 < (tksM f ms).length ↔ 0 < ms.length) := by
  cases ms with
  | nil => exact ⟨rfl, Iff.rfl⟩
  | cons m r =>
    obtain ⟨j, hj⟩ : ∃ j, m.2 - f = j + 1 := ⟨m.2 - f - 1, by have := h.1; omega⟩
    have e1 : tksM f (m :: r) = m.1 :: (List.replicate j m.1 ++ tksM m.2 r) := by
      show List.replicate (m.2 - f) m.1 ++ tksM m.2 r = _
      rw [hj, List.replicate_succ, List.cons_append]
    rw [e1]
    exact ⟨rfl, by simp⟩
end Go.Proofs.YtlbihcpglcdmmaaGreat.gc
namespace Go.Proofs.YtlbihcpglcdmmaaGreat.gc
open Go.RowKit

def flatM (ms : List Mk) : List Value := ms.flatMap fun m => [.int .i64 m.1, .int .i64 (m.2 : Int)]
theorem flatM_append (l r : List Mk) : flatM (l ++ r) = flatM l ++ flatM r := by simp [flatM]
theorem flatM_length (ms : List Mk) : (flatM ms).length = ms.length * 2 := by
  induction ms with
  | nil => rfl
  | cons d r ih => simp only [flatM, List.flatMap_cons, List.length_append, List.length_cons, List.length_nil] at ih ⊢; omega
theorem flatM_at (ms : List Mk) (i : Nat) (h : i < ms.length) : (flatM ms)[i * 2]? = some (.int .i64 (ms.getD i noMk).1) ∧ (flatM ms)[i * 2 + 1]? = some (.int .i64 ((ms.getD i noMk).2 : Int)) := by
  induction ms generalizing i with
  | nil => cases h
  | cons d r ih =>
    cases i with
    | zero => exact ⟨rfl, rfl⟩
    | succ k =>
      have h' := ih k (by simpa using h)
      have e : flatM (d :: r) = .int .i64 d.1 :: .int .i64 (d.2 : Int) :: flatM r := rfl
      rw [e, show (k + 1) * 2 = k * 2 + 1 + 1 by omega]
      simpa using h'
theorem flatM_one (ms : List Mk) : ∀ v ∈ flatM ms, v.oneCell' = true := by
  intro v hv
  simp only [flatM, List.mem_flatMap] at hv
  obtain ⟨d, _, hd⟩ := hv
  simp only [List.mem_cons, List.not_mem_nil, or_false] at hd
  rcases hd with rfl | rfl <;> rfl
theorem flatM_take (ms : List Mk) (k : Nat) : flatM (ms.take k) = (flatM ms).take (k * 2) := by
  induction ms generalizing k with
  | nil => simp [flatM]
  | cons d r ih =>
    cases k with
    | zero => rfl
    | succ k =>
      have e : ∀ l, flatM (d :: l) = .int .i64 d.1 :: .int .i64 (d.2 : Int) :: flatM l := fun _ => rfl
      rw [List.take_succ_cons, e, e, show (k + 1) * 2 = k * 2 + 1 + 1 by omega, List.take_succ_cons, List.take_succ_cons, ih]
theorem flatM_drop (ms : List Mk) (k : Nat) : flatM (ms.drop k) = (flatM ms).drop (k * 2) := by
  induction ms generalizing k with
  | nil => simp [flatM]
  | cons d r ih =>
    cases k with
    | zero => rfl
    | succ k =>
      have e : ∀ l, flatM (d :: l) = .int .i64 d.1 :: .int .i64 (d.2 : Int) :: flatM l := fun _ => rfl
      rw [List.drop_succ_cons, e, show (k + 1) * 2 = k * 2 + 1 + 1 by omega, List.drop_succ_cons, List.drop_succ_cons, ih]

/-- What holds of a cargo's bytes, ticks, and last tick. -/
structure Inv (S : ByteArray) (A : List Int) (last : Int) : Prop where
  len : A.length = S.size
  up : Up A
  rg : ∀ x ∈ A, 0 ≤ x ∧ x ≤ last
  last : 0 ≤ last ∧ last ≤ 1099511627776
/-- The blocks of the row, and of the marks. -/
abbrev U := Option Nat × Option Nat
def blk (p : Option Addr) : Option Nat := p.map (·.block)
/-- The struct in the block g, its bytes, its marks. -/
structure Raw (w : World) (base g : Nat) (p : Option Addr) (n c : Nat) (q : Option Addr) (m d : Nat) (S : ByteArray) (ms : List Mk) (G : Nat) (last : Int) : Prop where
  blk : w.heap[g]? = some (.cells #[.slice p n c, .slice q m d, .int .i64 (G : Int), .int .i64 last] 85 (0, 0))
  row : ORow w base 5 1 p n c ((nums S).map (Value.int .u8))
  mks : ORow w base 104 2 q m d (flatM ms)
  base : base ≤ g
/-- What its fields mean: bytes S of ticks A, no more than M were ever put. -/
structure Lg (G : Nat) (S : ByteArray) (ms : List Mk) (A : List Int) (last : Int) (M : Nat) : Prop where
  ends : EndsM G ms (G + S.size)
  rise : Rise ms
  tks : tksM G ms = A
  rg : ∀ m ∈ ms, 0 ≤ m.1 ∧ m.1 ≤ last
  last : 0 ≤ last ∧ last ≤ 1099511627776
  top : G + S.size ≤ M
  fit : M ≤ 1000000
theorem Lg.inv {G M : Nat} {S : ByteArray} {ms : List Mk} {A : List Int} {last : Int} (h : Lg G S ms A last M) : Inv S A last := by
  refine ⟨by rw [← h.tks, tks_len h.ends]; omega, by rw [← h.tks]; exact tks_up h.rise, fun x hx => ?_, h.last⟩
  rw [← h.tks] at hx
  obtain ⟨m, h1, rfl⟩ := mem_tks hx
  exact h.rg m h1
/-- A row of bytes and a row of marks behind a pointer. -/
def R (w : World) (base g : Nat) (u : U) (S : ByteArray) (ms : List Mk) (G : Nat) (last : Int) : Prop := ∃ p n c q m d, Raw w base g p n c q m d S ms G last ∧ u = (Go.Proofs.YtlbihcpglcdmmaaGreat.gc.blk p, Go.Proofs.YtlbihcpglcdmmaaGreat.gc.blk q)
/-- A cargo. -/
def Al (w : World) (base g : Nat) (u : U) (S : ByteArray) (A : List Int) (last : Int) (M : Nat) : Prop := ∃ ms G, R w base g u S ms G last ∧ Lg G S ms A last M
/-- What is there is as it was, but for the cargo in g, whose rows are in u. -/
structure Kept (w w' : World) (g : Nat) (u : U) : Prop where
  os : w'.os = w.os
  tape : w'.tape = w.tape
  output : w'.output = w.output
  size : w.heap.size ≤ w'.heap.size
  block : ∀ i, i < w.heap.size → i ≠ g → u.1 ≠ some i → u.2 ≠ some i → w'.heap[i]? = w.heap[i]?
/-- The blocks of u' are u's, or new ones. -/
def Newer (w : World) (u u' : U) : Prop := (∀ i, u'.1 = some i → u.1 = some i ∨ w.heap.size ≤ i) ∧ ∀ i, u'.2 = some i → u.2 = some i ∨ w.heap.size ≤ i
structure Chg (w : World) (base g : Nat) (u u' : U) (S : ByteArray) (ms : List Mk) (G : Nat) (last : Int) (w' : World) : Prop where
  r : R w' base g u' S ms G last
  n : Newer w u u'
  k : Kept w w' g u
def Put (w : World) (base g : Nat) (u : U) (S : ByteArray) (A : List Int) (last : Int) (M : Nat) (w' : World) : Prop := ∃ u' ms G, Chg w base g u u' S ms G last w' ∧ Lg G S ms A last M
/-- Blocks of other kinds than the cargo's own stay. -/
def Keeps (w w' : World) : Prop := ∀ (i : Nat) (cs : Array Value) (T : TypeId) (fr : Nat × Nat), w.heap[i]? = some (.cells cs T fr) → T ≠ 85 → T ≠ 5 → T ≠ 104 → w'.heap[i]? = some (.cells cs T fr)
def Two (g : Nat) (u : U) (g' : Nat) (u' : U) : Prop := g ≠ g' ∧ (∀ i, u.1 = some i → u'.1 ≠ some i) ∧ ∀ i, u.2 = some i → u'.2 ≠ some i
variable {w w' w'' w0 : World} {base g base' g' : Nat} {u u' : U} {S S' : ByteArray} {A A' : List Int} {last last' : Int} {M M' G G' : Nat} {ms ms' : List Mk}
theorem blk_some {p : Option Addr} {i : Nat} (h : blk p = some i) : ∃ a, p = some a ∧ a.block = i := by
  cases p with
  | none => cases h
  | some a => exact ⟨a, rfl, by simpa [blk] using h⟩
theorem R.lt (h : R w base g u S ms G last) : base ≤ g ∧ g < w.heap.size := by
  obtain ⟨p, n, c, q, m, d, hr, _⟩ := h
  exact ⟨hr.base, blk_lt hr.blk⟩
theorem R.typed (h : R w base g u S ms G last) : (∃ cs, w.heap[g]? = some (.cells cs 85 (0, 0))) ∧ (∀ i, u.1 = some i → base ≤ i ∧ ∃ cs, w.heap[i]? = some (.cells cs 5 (0, 0))) ∧ ∀ i, u.2 = some i → base ≤ i ∧ ∃ cs, w.heap[i]? = some (.cells cs 104 (0, 0)) := by
  obtain ⟨p, n, c, q, m, d, hr, rfl⟩ := h
  refine ⟨⟨_, hr.blk⟩, fun i hi => ?_, fun i hi => ?_⟩
  · obtain ⟨a, h1, rfl⟩ := blk_some hi
    exact ⟨(hr.row.lt a h1).1, hr.row.typed a h1⟩
  · obtain ⟨a, h1, rfl⟩ := blk_some hi
    exact ⟨(hr.mks.lt a h1).1, hr.mks.typed a h1⟩
theorem R.keep (h : R w base g u S ms G last) (hg : w'.heap[g]? = w.heap[g]?) (h1 : ∀ i, u.1 = some i → w'.heap[i]? = w.heap[i]?) (h2 : ∀ i, u.2 = some i → w'.heap[i]? = w.heap[i]?) : R w' base g u S ms G last := by
  obtain ⟨p, n, c, q, m, d, hr, rfl⟩ := h
  exact ⟨p, n, c, q, m, d, ⟨hg.trans hr.blk, hr.row.keep fun a e => h1 _ (by rw [e]; rfl), hr.mks.keep fun a e => h2 _ (by rw [e]; rfl), hr.base⟩, rfl⟩
theorem R.on (h : R w base g u S ms G last) (hb : Below w.heap.size w w') : R w' base g u S ms G last := by
  obtain ⟨p, n, c, q, m, d, hr, rfl⟩ := h
  exact ⟨p, n, c, q, m, d, ⟨(hb.block _ (blk_lt hr.blk)).trans hr.blk, hr.row.on hb, hr.mks.on hb, hr.base⟩, rfl⟩
theorem two_types {i : Nat} {cs cs' : Array Value} {T T' : TypeId} {fr fr' : Nat × Nat} (h : w.heap[i]? = some (.cells cs T fr)) (h' : w.heap[i]? = some (.cells cs' T' fr')) : T = T' := by
  rw [h] at h'
  injection h' with h'
  injection h' with _ h'
theorem Al.inv (h : Al w base g u S A last M) : Inv S A last := by
  obtain ⟨ms, G, _, hl⟩ := h
  exact hl.inv
theorem Al.on (h : Al w base g u S A last M) (hb : Below w.heap.size w w') : Al w' base g u S A last M := by
  obtain ⟨ms, G, hr, hl⟩ := h
  exact ⟨ms, G, hr.on hb, hl⟩
theorem Al.set_r (h : Al w base g u S A last M) {gr : Nat} {cs : Array Value} {fr : Nat × Nat} (hi : w.heap[gr]? = some (.cells cs 36 fr)) (j : Nat) (v : Value) : Al (w.setCell ⟨gr, j, none⟩ v) base g u S A last M := by
  obtain ⟨ms, G, hr, hl⟩ := h
  obtain ⟨⟨cs0, h0⟩, h1, h2⟩ := hr.typed
  refine ⟨ms, G, hr.keep (Below.heap_setCell _ _ _ _ ?_) (fun i e => Below.heap_setCell _ _ _ _ ?_) (fun i e => Below.heap_setCell _ _ _ _ ?_), hl⟩
  · intro e; rw [e] at h0; have := two_types h0 hi; simp at this
  · intro e'; obtain ⟨_, cs1, h3⟩ := h1 i e; rw [e'] at h3; have := two_types h3 hi; simp at this
  · intro e'; obtain ⟨_, cs1, h3⟩ := h2 i e; rw [e'] at h3; have := two_types h3 hi; simp at this
theorem Al.bounds (h : Al w base g u S A last M) : base ≤ w.heap.size := by
  obtain ⟨ms, G, hr, hl⟩ := h
  have := hr.lt
  omega
theorem Al.u_base (h : Al w base g u S A last M) : (∀ i, u.1 = some i → base ≤ i ∧ i < w.heap.size) ∧ ∀ i, u.2 = some i → base ≤ i ∧ i < w.heap.size := by
  obtain ⟨ms, G, hr, hl⟩ := h
  obtain ⟨_, h1, h2⟩ := hr.typed
  exact ⟨fun i hi => ⟨(h1 i hi).1, by obtain ⟨_, cs, h3⟩ := h1 i hi; exact blk_lt h3⟩, fun i hi => ⟨(h2 i hi).1, by obtain ⟨_, cs, h3⟩ := h2 i hi; exact blk_lt h3⟩⟩
theorem R.u_base (hr : R w base g u S ms G last) : (∀ i, u.1 = some i → base ≤ i ∧ i < w.heap.size) ∧ ∀ i, u.2 = some i → base ≤ i ∧ i < w.heap.size := by
  obtain ⟨_, h1, h2⟩ := hr.typed
  exact ⟨fun i hi => ⟨(h1 i hi).1, by obtain ⟨_, cs, h3⟩ := h1 i hi; exact blk_lt h3⟩, fun i hi => ⟨(h2 i hi).1, by obtain ⟨_, cs, h3⟩ := h2 i hi; exact blk_lt h3⟩⟩
theorem kept_refl (w : World) (g : Nat) (u : U) : Kept w w g u := ⟨rfl, rfl, rfl, Nat.le_refl _, fun _ _ _ _ _ => rfl⟩
theorem kept_below (h : Below w.heap.size w w') (g : Nat) (u : U) : Kept w w' g u := ⟨h.os, h.tape, h.output, h.size, fun i hi _ _ _ => h.block i hi⟩
theorem kept_set (h : Kept w0 w g u) (i : Nat) (x : Value) : Kept w0 (w.setCell ⟨g, i, none⟩ x) g u :=
  ⟨h.os, h.tape, h.output, by simpa [World.setCell] using h.size, fun j hj hg h1 h2 => (Below.heap_setCell w ⟨g, i, none⟩ x j hg).trans (h.block j hj hg h1 h2)⟩
theorem kept_row (h : Kept w0 w g u) (hg : w.grownBy w' u.1) : Kept w0 w' g u := by
  have hs := h.size
  exact ⟨hg.os.trans h.os, hg.tape.trans h.tape, hg.output.trans h.output, Nat.le_trans h.size hg.size, fun j hj hgj h1 h2 => (hg.block j (by omega) (fun e => h1 e.symm)).trans (h.block j hj hgj h1 h2)⟩
theorem kept_mks (h : Kept w0 w g u) (hg : w.grownBy w' u.2) : Kept w0 w' g u := by
  have hs := h.size
  exact ⟨hg.os.trans h.os, hg.tape.trans h.tape, hg.output.trans h.output, Nat.le_trans h.size hg.size, fun j hj hgj h1 h2 => (hg.block j (by omega) (fun e => h2 e.symm)).trans (h.block j hj hgj h1 h2)⟩
theorem kept_trans {u1 : U} (h : Kept w w' g u) (hn : Newer w u u1) (k : Kept w' w'' g u1) : Kept w w'' g u := by
  have hs := h.size
  refine ⟨k.os.trans h.os, k.tape.trans h.tape, k.output.trans h.output, Nat.le_trans h.size k.size, fun i hi hg h1 h2 => (k.block i (by omega) hg (fun e => ?_) (fun e => ?_)).trans (h.block i hi hg h1 h2)⟩
  · rcases hn.1 i e with e | e
    · exact h1 e
    · omega
  · rcases hn.2 i e with e | e
    · exact h2 e
    · omega
theorem newer_refl (w : World) (u : U) : Newer w u u := ⟨fun _ h => Or.inl h, fun _ h => Or.inl h⟩
theorem newer_trans {u1 u2 : U} (h : Newer w u u1) (hs : w.heap.size ≤ w'.heap.size) (k : Newer w' u1 u2) : Newer w u u2 := by
  refine ⟨fun i e => ?_, fun i e => ?_⟩
  · rcases k.1 i e with e | e
    · exact h.1 i e
    · right; omega
  · rcases k.2 i e with e | e
    · exact h.2 i e
    · right; omega
theorem Chg.pre {u1 : U} (hb : Below w.heap.size w w') (hp : Chg w' base g u u1 S ms G last w'') : Chg w base g u u1 S ms G last w'' :=
  ⟨hp.r, newer_trans (newer_refl w u) hb.size hp.n, kept_trans (kept_below hb g u) (newer_refl w u) hp.k⟩
theorem Chg.post {u1 : U} (hp : Chg w base g u u1 S ms G last w') (hb : Below w'.heap.size w' w'') : Chg w base g u u1 S ms G last w'' :=
  ⟨hp.r.on hb, hp.n, kept_trans hp.k hp.n (kept_below hb g u1)⟩
theorem Chg.seq {u1 u2 : U} (hp : Chg w base g u u1 S ms G last w') (hq : Chg w' base g u1 u2 S' ms' G' last' w'') : Chg w base g u u2 S' ms' G' last' w'' :=
  ⟨hq.r, newer_trans hp.n hp.k.size hq.n, kept_trans hp.k hp.n hq.k⟩
theorem chg_same (h : R w base g u S ms G last) : Chg w base g u u S ms G last w := ⟨h, newer_refl w u, kept_refl w g u⟩
theorem Put.pre (_h : Al w base g u S' A' last' M') (hb : Below w.heap.size w w') (hp : Put w' base g u S A last M w'') : Put w base g u S A last M w'' := by
  obtain ⟨u', ms, G, hc, hl⟩ := hp
  exact ⟨u', ms, G, hc.pre hb, hl⟩
theorem Put.post (_h : Al w base g u S' A' last' M') (hp : Put w base g u S A last M w') (hb : Below w'.heap.size w' w'') : Put w base g u S A last M w'' := by
  obtain ⟨u', ms, G, hc, hl⟩ := hp
  exact ⟨u', ms, G, hc.post hb, hl⟩
theorem put_same (h : Al w base g u S A last M) : Put w base g u S A last M w := by
  obtain ⟨ms, G, hr, hl⟩ := h
  exact ⟨u, ms, G, chg_same hr, hl⟩
theorem Lg.more (h : Lg G S ms A last M) (hM : M ≤ M') (hf : M' ≤ 1000000) : Lg G S ms A last M' := ⟨h.ends, h.rise, h.tks, h.rg, h.last, Nat.le_trans h.top hM, hf⟩
theorem Put.more (h : Put w base g u S A last M w') (hM : M ≤ M') (hf : M' ≤ 1000000) : Put w base g u S A last M' w' := by
  obtain ⟨u', ms, G, hc, hl⟩ := h
  exact ⟨u', ms, G, hc, hl.more hM hf⟩
theorem Al.more (h : Al w base g u S A last M) (hM : M ≤ M') (hf : M' ≤ 1000000) : Al w base g u S A last M' := by
  obtain ⟨ms, G, hr, hl⟩ := h
  exact ⟨ms, G, hr, hl.more hM hf⟩
theorem Al.size_le (h : Al w base g u S A last M) : S.size ≤ M ∧ M ≤ 1000000 := by
  obtain ⟨ms, G, hr, hl⟩ := h
  have := hl.top
  exact ⟨by omega, hl.fit⟩
theorem put_below (h1 : Below w0.heap.size w0 w) (h : Al w base g u S' A' last' M') (hp : Put w base g u S A last M w') (hB : w0.heap.size ≤ base) : Below w0.heap.size w0 w' := by
  obtain ⟨u', ms, G, hc, hl⟩ := hp
  obtain ⟨hu1, hu2⟩ := h.u_base
  obtain ⟨ms', G', hr, hl'⟩ := h
  have hlt := hr.lt
  exact h1.trans ⟨hc.k.os, hc.k.tape, hc.k.output, hc.k.size, fun i hi => hc.k.block i (by omega) (by omega) (fun e => by have := hu1 i e; omega) fun e => by have := hu2 i e; omega⟩
theorem put_ex (hp : Put w base g u S A last M w') : ∃ u', Al w' base g u' S A last M := by
  obtain ⟨u', ms, G, hc, hl⟩ := hp
  exact ⟨u', ms, G, hc.r, hl⟩
theorem keeps_put (h : Al w base g u S' A' last' M') (hp : Put w base g u S A last M w') : Keeps w w' := by
  obtain ⟨u', ms, G, hc, hl⟩ := hp
  obtain ⟨ms', G', hr, hl'⟩ := h
  obtain ⟨⟨cs0, h0⟩, h1, h2⟩ := hr.typed
  intro i cs T fr hi t0 t1 t2
  refine (hc.k.block i (blk_lt hi) (fun e => ?_) (fun e => ?_) (fun e => ?_)).trans hi
  · rw [e] at hi; exact t0 (two_types hi h0)
  · obtain ⟨_, cs1, h3⟩ := h1 i e; exact t1 (two_types hi h3)
  · obtain ⟨_, cs1, h3⟩ := h2 i e; exact t2 (two_types hi h3)
theorem Two.symm (h : Two g u g' u') : Two g' u' g u := ⟨fun e => h.1 e.symm, fun i e e' => h.2.1 i e' e, fun i e e' => h.2.2 i e' e⟩
theorem chg_other {u1 : U} (h1 : R w base g u S ms G last) (h2 : Al w base' g' u' S' A' last' M') (ht : Two g u g' u') {S1 : ByteArray} {ms1 : List Mk} {G1 : Nat} {l1 : Int} (hc : Chg w base g u u1 S1 ms1 G1 l1 w') :
    Al w' base' g' u' S' A' last' M' ∧ Two g u1 g' u' := by
  obtain ⟨ms2, G2, hr2, hl2⟩ := h2
  obtain ⟨⟨cs0, a0⟩, a1, a2⟩ := h1.typed
  obtain ⟨⟨cs1, b0⟩, b1, b2⟩ := hr2.typed
  refine ⟨⟨ms2, G2, hr2.keep (hc.k.block g' (blk_lt b0) (fun e => ht.1 e.symm) (fun e => ?_) (fun e => ?_)) (fun i hi => ?_) (fun i hi => ?_), hl2⟩, ht.1, fun i hi hi' => ?_, fun i hi hi' => ?_⟩
  · obtain ⟨_, cs, h3⟩ := a1 g' e; have := two_types b0 h3; simp at this
  · obtain ⟨_, cs, h3⟩ := a2 g' e; have := two_types b0 h3; simp at this
  · obtain ⟨_, cs, h3⟩ := b1 i hi
    refine hc.k.block i (blk_lt h3) (fun e => ?_) (fun e => ht.2.1 i e hi) (fun e => ?_)
    · rw [e] at h3; have := two_types a0 h3; simp at this
    · obtain ⟨_, cs, h4⟩ := a2 i e; have := two_types h3 h4; simp at this
  · obtain ⟨_, cs, h3⟩ := b2 i hi
    refine hc.k.block i (blk_lt h3) (fun e => ?_) (fun e => ?_) (fun e => ht.2.2 i e hi)
    · rw [e] at h3; have := two_types a0 h3; simp at this
    · obtain ⟨_, cs, h4⟩ := a1 i e; have := two_types h3 h4; simp at this
  · obtain ⟨_, cs, h3⟩ := b1 i hi'
    have := blk_lt h3
    rcases hc.n.1 i hi with e | e
    · exact ht.2.1 i e hi'
    · omega
  · obtain ⟨_, cs, h3⟩ := b2 i hi'
    have := blk_lt h3
    rcases hc.n.2 i hi with e | e
    · exact ht.2.2 i e hi'
    · omega
theorem put_other (h1 : Al w base g u S A last M) (h2 : Al w base' g' u' S' A' last' M') (ht : Two g u g' u') {S1 : ByteArray} {A1 : List Int} {l1 : Int} {M1 : Nat} (hp : Put w base g u S1 A1 l1 M1 w') : Al w' base' g' u' S' A' last' M' ∧ ∃ u1, Al w' base g u1 S1 A1 l1 M1 ∧ Two g u1 g' u' := by
  obtain ⟨u1, ms1, G1, hc, hl⟩ := hp
  obtain ⟨ms2, G2, hr, _⟩ := h1
  obtain ⟨h3, h4⟩ := chg_other hr h2 ht hc
  exact ⟨h3, u1, ⟨ms1, G1, hc.r, hl⟩, h4⟩
theorem two_far (h1 : Al w base g u S A last M) (_hb : Below w.heap.size w w') (h2 : Al w' w.heap.size g' u' S' A' last' M') : Two g u g' u' := by
  obtain ⟨a1, a2⟩ := h1.u_base
  obtain ⟨b1, b2⟩ := h2.u_base
  obtain ⟨ms1, G1, hr1, _⟩ := h1
  obtain ⟨ms2, G2, hr2, _⟩ := h2
  have l1 := hr1.lt
  have l2 := hr2.lt
  exact ⟨by omega, fun i e e' => by have := a1 i e; have := b1 i e'; omega, fun i e e' => by have := a2 i e; have := b2 i e'; omega⟩
theorem keeps_cargo (h : Keeps w w') {i : Nat} {cs : Array Value} {fr : Nat × Nat} (hi : w.heap[i]? = some (.cells cs 36 fr)) : w'.heap[i]? = some (.cells cs 36 fr) := h i cs _ fr hi (by decide) (by decide) (by decide)
theorem keeps_rowA (h : Keeps w w') {p : Option Addr} {n c : Nat} {xs : List Int} (hr : RowA w p n c xs) : RowA w' p n c xs := by
  obtain ⟨h1, h2, h3, h4, h5, h6⟩ := hr
  refine ⟨h1, h2, h3, fun hn => ?_, h5, fun hn => ?_⟩
  · obtain ⟨b, o, rfl, hc⟩ := h4 hn
    obtain ⟨a, cs, fr, e, hh⟩ := h6 hn
    cases e
    have hh' := h _ _ _ _ hh (by decide) (by decide) (by decide)
    exact ⟨b, o, rfl, fun i hi => (World.cell?_of_block (a := ⟨b, o + i, none⟩) (hh'.trans hh.symm)).trans (hc i hi)⟩
  · obtain ⟨a, cs, fr, e, hh⟩ := h6 hn
    exact ⟨a, cs, fr, e, h _ _ _ _ hh (by decide) (by decide) (by decide)⟩
/-- The bytes that Take hands back are none of the cargo's own: they stay while it goes on. -/
def Own (q : Option Addr) (g : Nat) (u : U) : Prop := ∀ a, q = some a → a.block ≠ g ∧ u.1 ≠ some a.block ∧ u.2 ≠ some a.block
def PutQ (w : World) (base g : Nat) (u : U) (S : ByteArray) (A : List Int) (last : Int) (M : Nat) (q : Option Addr) (w' : World) : Prop := ∃ u' ms G, Chg w base g u u' S ms G last w' ∧ Lg G S ms A last M ∧ Own q g u'
theorem putq_put {q : Option Addr} (hp : PutQ w base g u S A last M q w') : Put w base g u S A last M w' := by
  obtain ⟨u', ms, G, hc, hl, _⟩ := hp
  exact ⟨u', ms, G, hc, hl⟩
theorem putq_other {q : Option Addr} (h1 : Al w base g u S A last M) (h2 : Al w base' g' u' S' A' last' M') (ht : Two g u g' u') {S1 : ByteArray} {A1 : List Int} {l1 : Int} {M1 : Nat} (hp : PutQ w base g u S1 A1 l1 M1 q w') : Al w' base' g' u' S' A' last' M' ∧ ∃ u1, Al w' base g u1 S1 A1 l1 M1 ∧ Two g u1 g' u' ∧ Own q g u1 := by
  obtain ⟨u1, ms1, G1, hc, hl, ho⟩ := hp
  obtain ⟨ms2, G2, hr, _⟩ := h1
  obtain ⟨h3, h4⟩ := chg_other hr h2 ht hc
  exact ⟨h3, u1, ⟨ms1, G1, hc.r, hl⟩, h4, ho⟩
theorem bytes_stay {q : Option Addr} (_h : Al w base g u S A last M) (ho : Own q g u) {n : Nat} {xs : List Int} (hi : Lib.BytesIn w q n xs) {S1 : ByteArray} {A1 : List Int} {l1 : Int} {M1 : Nat} (hp : Put w base g u S1 A1 l1 M1 w') : Lib.BytesIn w' q n xs := fun hn => by
  obtain ⟨u1, ms1, G1, hc, hl⟩ := hp
  obtain ⟨b, o, rfl, hcl⟩ := hi.at hn
  obtain ⟨n1, n2, n3⟩ := ho _ rfl
  refine ⟨b, o, rfl, fun i hi' => ?_⟩
  have hb := World.block_lt_of_cell? w _ (hcl i hi')
  rw [← hcl i hi']
  exact World.cell?_of_block (a := ⟨b, o + i, none⟩) (hc.k.block b hb n1 n2 n3)
theorem bytes_drew {q : Option Addr} {n : Nat} {xs : List Int} (hi : Lib.BytesIn w q n xs) : Lib.BytesIn w.drew q n xs := fun hn => by
  obtain ⟨b, o, rfl, hcl⟩ := hi.at hn
  exact ⟨b, o, rfl, fun i hi' => (hcl i hi')⟩

/-! One field set anew. -/
theorem Raw.set0 {p q p' : Option Addr} {n c m d n' c' : Nat} (hb : w.heap[g]? = some (.cells #[.slice p n c, .slice q m d, .int .i64 (G : Int), .int .i64 last] 85 (0, 0))) (hm : ORow w base 104 2 q m d (flatM ms)) (h0 : base ≤ g) (ho : ORow w base 5 1 p' n' c' ((nums S').map (Value.int .u8))) :
    Raw (w.setCell ⟨g, 0, none⟩ (.slice p' n' c')) base g p' n' c' q m d S' ms G last :=
  ⟨by rw [set_heap hb]; rfl, ho.set hb (by decide) _ _, hm.set hb (by decide) _ _, h0⟩
theorem Raw.set1 {p q q' : Option Addr} {n c m d m' d' : Nat} (hb : w.heap[g]? = some (.cells #[.slice p n c, .slice q m d, .int .i64 (G : Int), .int .i64 last] 85 (0, 0))) (hr : ORow w base 5 1 p n c ((nums S).map (Value.int .u8))) (h0 : base ≤ g) (ho : ORow w base 104 2 q' m' d' (flatM ms')) :
    Raw (w.setCell ⟨g, 1, none⟩ (.slice q' m' d')) base g p n c q' m' d' S ms' G last :=
  ⟨by rw [set_heap hb]; rfl, hr.set hb (by decide) _ _, ho.set hb (by decide) _ _, h0⟩
theorem Raw.set2 {p q : Option Addr} {n c m d : Nat} (h : Raw w base g p n c q m d S ms G last) (G' : Nat) : Raw (w.setCell ⟨g, 2, none⟩ (.int .i64 (G' : Int))) base g p n c q m d S ms G' last :=
  ⟨by rw [set_heap h.blk]; rfl, h.row.set h.blk (by decide) _ _, h.mks.set h.blk (by decide) _ _, h.base⟩
theorem Raw.set3 {p q : Option Addr} {n c m d : Nat} (h : Raw w base g p n c q m d S ms G last) (l' : Int) : Raw (w.setCell ⟨g, 3, none⟩ (.int .i64 l')) base g p n c q m d S ms G l' :=
  ⟨by rw [set_heap h.blk]; rfl, h.row.set h.blk (by decide) _ _, h.mks.set h.blk (by decide) _ _, h.base⟩
theorem Raw.on {p q : Option Addr} {n c m d : Nat} (h : Raw w base g p n c q m d S ms G last) (hb : Below w.heap.size w w') : Raw w' base g p n c q m d S ms G last :=
  ⟨(hb.block _ (blk_lt h.blk)).trans h.blk, h.row.on hb, h.mks.on hb, h.base⟩
theorem Raw.sizes {p q : Option Addr} {n c m d : Nat} (h : Raw w base g p n c q m d S ms G last) : n = S.size ∧ m = ms.length ∧ n ≤ c ∧ m ≤ d ∧ c ≤ 9223372036854775807 ∧ d ≤ 9223372036854775807 := by
  have h1 := h.row.len
  have h2 := h.mks.len
  have h3 := h.row.max
  have h4 := h.mks.max
  rw [List.length_map, nums_length] at h1
  rw [flatM_length] at h2
  unfold maxLen at h3 h4
  exact ⟨by omega, by omega, h.row.cap, h.mks.cap, by omega, by omega⟩
theorem Raw.cells {p q : Option Addr} {n c m d : Nat} (h : Raw w base g p n c q m d S ms G last) : w.cell? ⟨g, 0, none⟩ = some (.slice p n c) ∧ w.cell? ⟨g, 1, none⟩ = some (.slice q m d) ∧ w.cell? ⟨g, 2, none⟩ = some (.int .i64 (G : Int)) ∧ w.cell? ⟨g, 3, none⟩ = some (.int .i64 last) :=
  ⟨cell_of_row w g 0 _ _ _ h.blk, cell_of_row w g 1 _ _ _ h.blk, cell_of_row w g 2 _ _ _ h.blk, cell_of_row w g 3 _ _ _ h.blk⟩
theorem Raw.mark {p q : Option Addr} {n c m d : Nat} (h : Raw w base g p n c q m d S ms G last) {k : Nat} (hk : k < m) : ∃ b o, q = some ⟨b, o, none⟩ ∧ w.cell? ⟨b, o + k * 2, none⟩ = some (.int .i64 (ms.getD k noMk).1) ∧ w.cell? ⟨b, o + k * 2 + 1, none⟩ = some (.int .i64 ((ms.getD k noMk).2 : Int)) := by
  obtain ⟨b, o, e, hc⟩ := h.mks.at (by omega)
  have hm := h.sizes.2.1
  have hf := flatM_at ms k (by omega)
  exact ⟨b, o, e, hc _ _ hf.1, by rw [Nat.add_assoc]; exact hc _ _ hf.2⟩
theorem Raw.r {p q : Option Addr} {n c m d : Nat} (h : Raw w base g p n c q m d S ms G last) : R w base g (Go.Proofs.YtlbihcpglcdmmaaGreat.gc.blk p, Go.Proofs.YtlbihcpglcdmmaaGreat.gc.blk q) S ms G last := ⟨p, n, c, q, m, d, h, rfl⟩
/-- The row as bytes. -/
theorem Raw.bytes {p q : Option Addr} {n c m d : Nat} (h : Raw w base g p n c q m d S ms G last) : Lib.BytesIn w p n (nums S) := fun hn => by
  obtain ⟨b, o, e, hc⟩ := h.row.at hn
  refine ⟨b, o, e, fun i hi => hc i _ ?_⟩
  have hs := h.sizes.1
  rw [List.getElem?_map, List.getD_eq_getElem?_getD, List.getElem?_eq_getElem (by rw [nums_length]; omega)]
  rfl
end Go.Proofs.YtlbihcpglcdmmaaGreat.gc

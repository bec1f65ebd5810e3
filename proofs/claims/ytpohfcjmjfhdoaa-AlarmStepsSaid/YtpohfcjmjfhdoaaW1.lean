/-
  Alarms behind a pointer: the struct, the heap's row, and the map of places; how they are kept. Conditions: as each states.
-/
import Derived.Test.YtpohfcjmjfhdoaaC2
import Derived.Test.YtpohfcjmjfhdoaaD5
import Derived.Maps.OwnSet
namespace Go.Proofs.Ytpohfcjmjfhdoaa
open Go.RowKit Go.Sort Go.Maps

theorem lawI : Keyed Try.prog 3 := int_keyed Try.underlying3
theorem zeroI (w : World) : (zeroValue 3).run Try.prog w = .ok (.int .i64 0) w := by kernel_rfl
theorem wfI {x : Int} (h : -9223372036854775808 ≤ x ∧ x ≤ 9223372036854775807) : (Lit.int .i64 x).wf = true := WalkArith.wf_i64 h
theorem tight {w : World} {k : TypeId} {R : Value → Option (DataW Unit × List MemPlace)} {b n : Nat} {D : DataW Unit} (h : w.ownsMap Try.prog k R b n D) : w.ownsMap Try.prog k R b (Maps.size D) D := by
  obtain ⟨es, clock, hb, F, _, rfl⟩ := h
  exact ⟨es, clock, hb, F, by simp [Maps.size, length_sorted], rfl⟩
/-- A map that says where each id stands. -/
def MapIn (w : World) (m : Nat) (pl : Int → Option Nat) (sz : Nat) : Prop := ∃ D : DataW Unit, w.ownsMap Try.prog 3 (plainElem Try.prog 3) m sz D ∧ Maps.size D = sz ∧ (∀ i, Maps.has D (.int .i64 i) = (pl i).isSome) ∧ ∀ i k, pl i = some k → D.atKey (.int .i64 i) (.lit (.int .i64 0)) = .lit (.int .i64 (k : Int))
theorem map_kept {w w' : World} {m : Nat} {pl : Int → Option Nat} {sz : Nat} {row : Option Nat} (h : MapIn w m pl sz) (hg : w.grownBy w' row) (hne : some m ≠ row) : MapIn w' m pl sz := by
  obtain ⟨D, h1, h2⟩ := h
  exact ⟨D, h1.kept hg hne, h2⟩
theorem map_block {w : World} {m : Nat} {pl : Int → Option Nat} {sz : Nat} (h : MapIn w m pl sz) : ∃ es cl, w.heap[m]? = some (.map es cl) := by
  obtain ⟨D, ⟨es, cl, hb, _⟩, _⟩ := h
  exact ⟨es, cl, hb⟩
theorem map_look {w : World} {m : Nat} {pl : Int → Option Nat} {sz : Nat} (h : MapIn w m pl sz) {i : Int} (hi : -9223372036854775808 ≤ i ∧ i ≤ 9223372036854775807) :
    (Instr.lookup 60 (.map (some m)) (.int .i64 i) true).run Try.prog w = .ok (.tuple #[.int .i64 (((pl i).getD 0 : Nat) : Int), .bool (pl i).isSome]) w := by
  obtain ⟨D, h1, h2, h3, h4⟩ := h
  obtain ⟨v, ps, hr, hv⟩ := h1.look_ok lawI Try.underlying60 (zeroI w) (plainElem_int Try.underlying3 (by decide)) (keyOf_int_mk Try.underlying3 (wfI hi))
  obtain ⟨c, rfl, hc, _⟩ := plainElem_int_inv Try.underlying3 hv
  rw [h3 i] at hr
  have hcc : c = (((pl i).getD 0 : Nat) : Int) := by
    have e0 : D.atKey (.int .i64 i) (.lit (.int .i64 0)) = .lit (.int .i64 c) := congrArg Prod.fst hc
    cases hp : pl i with
    | some k =>
      have h5 := h4 i k hp
      have e1 : (DataW.lit (.int .i64 c) : DataW Unit) = DataW.lit (.int .i64 (k : Int)) := by rw [← e0]; exact h5
      injection e1 with e1
      injection e1 with _ e1
    | none =>
      have h5 := atKey_of_not_has (D := D) (k := .int .i64 i) (by rw [h3 i, hp]; rfl) (.lit (.int .i64 0))
      have e1 : (DataW.lit (.int .i64 c) : DataW Unit) = DataW.lit (.int .i64 0) := by rw [← e0]; exact h5
      injection e1 with e1
      injection e1 with _ e1
  rw [← hcc]
  exact hr
theorem ne_key {i j : Int} (h : j ≠ i) : (Lit.int .i64 j) ≠ (Lit.int .i64 i) := by
  intro e
  injection e with _ e
  exact h e
theorem map_store {w : World} {m : Nat} {pl : Int → Option Nat} {sz : Nat} (h : MapIn w m pl sz) (hs : sz ≤ 1000000) {i : Int} (hi : -9223372036854775808 ≤ i ∧ i ≤ 9223372036854775807) {k : Nat} (hk : k ≤ 1000000) :
    ∃ w', (Instr.mapUpdate 60 (.map (some m)) (.int .i64 i) (.int .i64 (k : Int))).run Try.prog w = .ok () w' ∧ MapIn w' m (fun j => if j = i then some k else pl j) (if (pl i).isSome = true then sz else sz + 1) ∧ w.grownBy w' (some m) := by
  obtain ⟨D, h1, h2, h3, h4⟩ := h
  obtain ⟨w', hr, ho, ht⟩ := h1.store lawI Try.underlying60 (by unfold maxLen; omega) (keyOf_int_mk Try.underlying3 (wfI hi)) (plainElem_int (H := Unit) Try.underlying3 (wfI (x := (k : Int)) (by omega)))
  have hD := h1.isMap
  have hsz : Maps.size (D.put (.int .i64 i) (.lit (.int .i64 (k : Int)))) = if (pl i).isSome = true then sz else sz + 1 := by
    rw [size_put (h1.tidy lawI), h3 i, h2]
  refine ⟨w', hr, ⟨_, by rw [← hsz]; exact tight ho, hsz, fun j => ?_, fun j l hj => ?_⟩, ht.grown⟩
  · dsimp only
    by_cases e : j = i
    · subst e
      rw [has_put_same hD (show WideAt.IsKeyLit (.int .i64 j) from trivial), if_pos rfl]
      rfl
    · rw [has_put_other (ne_key e), if_neg e, h3]
  · dsimp only at hj
    by_cases e : j = i
    · subst e
      rw [if_pos rfl] at hj
      injection hj with hj
      subst hj
      exact atKey_put_same hD (show WideAt.IsKeyLit (.int .i64 j) from trivial) _ _
    · rw [if_neg e] at hj
      rw [atKey_put_other (ne_key e)]
      exact h4 j l hj
theorem map_drop {w : World} {m : Nat} {pl : Int → Option Nat} {sz : Nat} (h : MapIn w m pl sz) {i : Int} (hi : -9223372036854775808 ≤ i ∧ i ≤ 9223372036854775807) :
    ∃ w', (∀ ty, (Builtin.delete_ #[60, 3] ty #[.map (some m), .int .i64 i]).run Try.prog w = .ok (.tuple #[]) w') ∧ MapIn w' m (fun j => if j = i then none else pl j) (if (pl i).isSome = true then sz - 1 else sz) ∧ w.grownBy w' (some m) := by
  obtain ⟨D, h1, h2, h3, h4⟩ := h
  obtain ⟨w', hr, ho, ht⟩ := h1.drop lawI Try.underlying60 (keyOf_int_mk Try.underlying3 (wfI hi)) 0
  have hsz : Maps.size (D.del (.int .i64 i)) = if (pl i).isSome = true then sz - 1 else sz := by
    have := size_del (h1.tidy lawI) (k := .int .i64 i)
    rw [h3 i, h2] at this
    split at this <;> rename_i hc
    · rw [if_pos hc]; omega
    · rw [if_neg hc]; omega
  refine ⟨w', fun ty => ?_, ⟨_, by rw [← hsz]; exact tight ho, hsz, fun j => ?_, fun j l hj => ?_⟩, ht.grown⟩
  · rw [← hr]
    rfl
  · dsimp only
    by_cases e : j = i
    · subst e
      rw [has_del_same, if_pos rfl]
      rfl
    · rw [has_del_other (ne_key e), if_neg e, h3]
  · dsimp only at hj
    by_cases e : j = i
    · subst e
      rw [if_pos rfl] at hj
      cases hj
    · rw [if_neg e] at hj
      rw [atKey_del_other (ne_key e)]
      exact h4 j l hj
theorem map_len {w : World} {m : Nat} {pl : Int → Option Nat} {sz : Nat} (h : MapIn w m pl sz) (ty : TypeId) : (Builtin.len_ #[60] ty #[.map (some m)]).run Try.prog w = .ok (.int .i64 (sz : Int)) w := by
  obtain ⟨D, h1, h2, _⟩ := h
  rw [h1.len Try.underlying60 ty, h2]

/-- The struct in g, its row in u, its map in m. -/
structure Mem (w : World) (base g : Nat) (u : Option Nat) (m : Nat) (s : St) (last : Int) : Prop where
  ex : ∃ v, w.heap[g]? = some (.cells #[v, .map (some m), .int .i64 last] 62 (0, 0)) ∧ w.ownsRow base 38 2 v s.h.length (flat s.h) ∧ v.ownBlock = u
  map : MapIn w m s.pl s.sz
  base_g : base ≤ g
  base_m : base ≤ m
/-- What is there is as it was, but for the struct in g, its row in u, its map in m. -/
structure Kept (w w' : World) (g : Nat) (u : Option Nat) (m : Nat) : Prop where
  os : w'.os = w.os
  tape : w'.tape = w.tape
  output : w'.output = w.output
  size : w.heap.size ≤ w'.heap.size
  block : ∀ i, i < w.heap.size → i ≠ g → u ≠ some i → i ≠ m → w'.heap[i]? = w.heap[i]?
theorem kept_below {w w' : World} (h : Below w.heap.size w w') (g : Nat) (u : Option Nat) (m : Nat) : Kept w w' g u m := ⟨h.os, h.tape, h.output, h.size, fun i hi _ _ _ => h.block i hi⟩
theorem kept_refl (w : World) (g : Nat) (u : Option Nat) (m : Nat) : Kept w w g u m := kept_below (Below.refl _ _) g u m
theorem kept_trans {w w1 w2 : World} {g : Nat} {u : Option Nat} {m : Nat} (h : Kept w w1 g u m) (k : Kept w1 w2 g u m) : Kept w w2 g u m := by
  have hs := h.size
  exact ⟨k.os.trans h.os, k.tape.trans h.tape, k.output.trans h.output, Nat.le_trans h.size k.size, fun i hi hg hu hm => (k.block i (by omega) hg hu hm).trans (h.block i hi hg hu hm)⟩
/-- .. where the row may have become a new one. -/
theorem kept_new {w w1 w2 : World} {g : Nat} {u u1 : Option Nat} {m : Nat} (h : Kept w w1 g u m) (hu : ∀ i, u1 = some i → u = some i ∨ w.heap.size ≤ i) (k : Kept w1 w2 g u1 m) : Kept w w2 g u m := by
  have hs := h.size
  refine ⟨k.os.trans h.os, k.tape.trans h.tape, k.output.trans h.output, Nat.le_trans h.size k.size, fun i hi hg hn hm => (k.block i (by omega) hg (fun e => ?_) hm).trans (h.block i hi hg hn hm)⟩
  rcases hu i e with h | h
  · exact hn h
  · omega
theorem kept_row {a w w' : World} {g : Nat} {u : Option Nat} {m : Nat} (h : Kept a w g u m) (hg : w.grownBy w' u) : Kept a w' g u m := by
  have hs := h.size
  exact ⟨hg.os.trans h.os, hg.tape.trans h.tape, hg.output.trans h.output, Nat.le_trans h.size hg.size, fun j hj hgj hu hm => (hg.block j (by omega) (fun e => hu e.symm)).trans (h.block j hj hgj hu hm)⟩
theorem kept_map {a w w' : World} {g : Nat} {u : Option Nat} {m : Nat} (h : Kept a w g u m) (hg : w.grownBy w' (some m)) : Kept a w' g u m := by
  have hs := h.size
  exact ⟨hg.os.trans h.os, hg.tape.trans h.tape, hg.output.trans h.output, Nat.le_trans h.size hg.size, fun j hj hgj hu hm => (hg.block j (by omega) (fun e => hm (by injection e))).trans (h.block j hj hgj hu hm)⟩
theorem kept_set {a w : World} {g : Nat} {u : Option Nat} {m : Nat} (h : Kept a w g u m) (i : Nat) (x : Value) : Kept a (w.setCell ⟨g, i, none⟩ x) g u m :=
  ⟨h.os, h.tape, h.output, by simpa [World.setCell] using h.size, fun j hj hg hu hm => (Below.heap_setCell w ⟨g, i, none⟩ x j hg).trans (h.block j hj hg hu hm)⟩
theorem Mem.lt {w : World} {base g : Nat} {u : Option Nat} {m : Nat} {s : St} {last : Int} (h : Mem w base g u m s last) : g < w.heap.size := by
  obtain ⟨v, hb, _⟩ := h.ex
  exact blk_lt hb
theorem Mem.m_lt {w : World} {base g : Nat} {u : Option Nat} {m : Nat} {s : St} {last : Int} (h : Mem w base g u m s last) : m < w.heap.size := by
  obtain ⟨es, cl, hb⟩ := map_block h.map
  exact blk_lt hb
theorem Mem.u_lt {w : World} {base g : Nat} {u : Option Nat} {m : Nat} {s : St} {last : Int} (h : Mem w base g u m s last) {i : Nat} (hi : u = some i) : base ≤ i ∧ i < w.heap.size := by
  obtain ⟨v, _, ho, rfl⟩ := h.ex
  exact ho.lt i hi
theorem Mem.on {w w' : World} {base g : Nat} {u : Option Nat} {m : Nat} {s : St} {last : Int} (h : Mem w base g u m s last) (hb : Below w.heap.size w w') : Mem w' base g u m s last := by
  have hm := h.m_lt
  obtain ⟨v, h1, h2, h3⟩ := h.ex
  exact ⟨⟨v, (hb.block g (blk_lt h1)).trans h1, own_on h2 hb, h3⟩, map_kept h.map (row := none) ⟨hb.os, hb.tape, hb.output, hb.size, fun i hi _ => hb.block i hi⟩ (by simp), h.base_g, h.base_m⟩
/-- A row is no struct of alarms. -/
theorem own_other {w : World} {base g : Nat} {v : Value} {n : Nat} {zs : List Value} {cs : Array Value} (ho : w.ownsRow base 38 2 v n zs) (hg : w.heap[g]? = some (.cells cs 62 (0, 0))) : v.ownBlock ≠ some g := by
  rcases ho.2 with ⟨rfl, _⟩ | ⟨b, cap, cur, rfl, _, hh, _⟩
  · simp [Value.ownBlock]
  · intro he
    have : b = g := by simpa [Value.ownBlock] using he
    subst this
    rw [hh] at hg
    simp at hg
theorem own_no_map {w : World} {base m : Nat} {v : Value} {n : Nat} {zs : List Value} {es : Array MapEntry} {cl : Nat} (ho : w.ownsRow base 38 2 v n zs) (hm : w.heap[m]? = some (.map es cl)) : v.ownBlock ≠ some m := by
  rcases ho.2 with ⟨rfl, _⟩ | ⟨b, cap, cur, rfl, _, hh, _⟩
  · simp [Value.ownBlock]
  · intro he
    have : b = m := by simpa [Value.ownBlock] using he
    subst this
    rw [hh] at hm
    simp at hm
theorem grown_set (w : World) (a : Addr) (v : Value) : w.grownBy (w.setCell a v) (some a.block) := ⟨rfl, rfl, rfl, by simp [World.setCell], fun i _ hn => Below.heap_setCell w a v i (fun e => hn (by rw [e]))⟩
end Go.Proofs.Ytpohfcjmjfhdoaa

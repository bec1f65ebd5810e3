/-
  What stays while alarms turn: rows of the document's alarms, blocks of other kinds, other alarms; what alive answers. Conditions: as each states.
-/
import Derived.Test.YtpohfcjmjfhdoaaW16
namespace Go.Proofs.Ytpohfcjmjfhdoaa
open Go.RowKit Go.Sort Go.Maps

/-- A block of another kind is none of the alarms' ones. -/
theorem Al.apart {w : World} {base g : Nat} {u : Option Nat} {m : Nat} {L : List Due} {last : Int} (h : Al w base g u m L last) {i : Nat} {cs : Array Value} {T : TypeId} {fr : Nat × Nat} (h1 : T ≠ 62) (h2 : T ≠ 38) (hi : w.heap[i]? = some (.cells cs T fr)) : i ≠ g ∧ u ≠ some i ∧ i ≠ m := by
  obtain ⟨s, hM, _⟩ := h.ex
  obtain ⟨v', a1, a2, a3⟩ := hM.ex
  obtain ⟨es, cl, hm⟩ := map_block hM.map
  refine ⟨fun e => ?_, fun e => ?_, fun e => ?_⟩
  · rw [e, a1] at hi
    simp at hi
    exact h1 hi.2.1.symm
  · rw [e] at a3
    rcases a2.2 with ⟨rfl, _⟩ | ⟨b, cap, cur, rfl, _, hh, _⟩
    · simp [Value.ownBlock] at a3
    · have e2 : b = i := by simpa [Value.ownBlock] using a3
      rw [e2, hi] at hh
      simp at hh
      exact h2 hh.2.1
  · rw [e, hm] at hi
    cases hi
/-- Blocks of other kinds are as they were. -/
def Keeps (w w' : World) : Prop := ∀ (i : Nat) cs T fr, T ≠ 62 → T ≠ 38 → w.heap[i]? = some (.cells cs T fr) → w'.heap[i]? = some (.cells cs T fr)
theorem keeps_put {w w' : World} {base g : Nat} {u : Option Nat} {m : Nat} {L L' : List Due} {last last' : Int} (h : Al w base g u m L last) (hp : Put w base g u m L' last' w') : Keeps w w' := fun i cs T fr h1 h2 hi => by
  obtain ⟨_, _, _, hk⟩ := hp
  obtain ⟨a1, a2, a3⟩ := h.apart h1 h2 hi
  exact (hk.block i (blk_lt hi) a1 a2 a3).trans hi
theorem keeps_below {w w' : World} (h : Below w.heap.size w w') : Keeps w w' := fun i _ _ _ _ _ hi => (h.block i (blk_lt hi)).trans hi
theorem Keeps.trans {w w1 w2 : World} (h : Keeps w w1) (k : Keeps w1 w2) : Keeps w w2 := fun i cs T fr h1 h2 hi => k i cs T fr h1 h2 (h i cs T fr h1 h2 hi)
theorem row_keeps {w w' : World} {p : Option Addr} {n c : Nat} {ds : List Due} (h : RowIn w p n c ds) (hk : Keeps w w') : RowIn w' p n c ds := by
  refine ⟨h.1, h.2.1, h.2.2.1, fun hn => ?_, fun hn => ?_⟩
  · obtain ⟨b, o, e, hc⟩ := h.2.2.2.1 hn
    obtain ⟨a, cs, fr, e', hh⟩ := h.2.2.2.2 hn
    rw [e] at e'
    cases e'
    have hb := hk b cs _ fr (by decide) (by decide) hh
    refine ⟨b, o, e, fun i hi => ?_⟩
    rw [World.cell?_of_block (w := w) (w' := w') (a := ⟨b, o + i * 2, none⟩) (hb.trans hh.symm), World.cell?_of_block (w := w) (w' := w') (a := ⟨b, o + (i * 2 + 1), none⟩) (hb.trans hh.symm)]
    exact hc i hi
  · obtain ⟨a, cs, fr, e', hh⟩ := h.2.2.2.2 hn
    exact ⟨a, cs, fr, e', hk a.block cs _ fr (by decide) (by decide) hh⟩
theorem row_set {w : World} {p : Option Addr} {n c : Nat} {ds : List Due} (h : RowIn w p n c ds) {i : Nat} {cs : Array Value} {T : TypeId} {fr : Nat × Nat} (hT : T ≠ 46) (hi : w.heap[i]? = some (.cells cs T fr)) (j : Nat) (v : Value) : RowIn (w.setCell ⟨i, j, none⟩ v) p n c ds := by
  have hne : ∀ a cs' fr', w.heap[(a : Addr).block]? = some (.cells cs' 46 fr') → a.block ≠ i := fun a cs' fr' hh e => by
    rw [e, hi] at hh
    simp at hh
    exact hT hh.2.1
  refine ⟨h.1, h.2.1, h.2.2.1, fun hn => ?_, fun hn => ?_⟩
  · obtain ⟨b, o, e, hc⟩ := h.2.2.2.1 hn
    obtain ⟨a, cs', fr', e', hh⟩ := h.2.2.2.2 hn
    rw [e] at e'
    cases e'
    have hb := Below.heap_setCell w ⟨i, j, none⟩ v b (hne _ _ _ hh)
    refine ⟨b, o, e, fun k hk => ?_⟩
    rw [World.cell?_of_block (w := w) (w' := w.setCell ⟨i, j, none⟩ v) (a := ⟨b, o + k * 2, none⟩) hb, World.cell?_of_block (w := w) (w' := w.setCell ⟨i, j, none⟩ v) (a := ⟨b, o + (k * 2 + 1), none⟩) hb]
    exact hc k hk
  · obtain ⟨a, cs', fr', e', hh⟩ := h.2.2.2.2 hn
    exact ⟨a, cs', fr', e', (Below.heap_setCell w ⟨i, j, none⟩ v _ (hne _ _ _ hh)).trans hh⟩
theorem own_same {w w' : World} {base T n : Nat} {v : Value} {zs : List Value} (h : w.ownsRow base T 2 v n zs) (hb : ∀ i, v.ownBlock = some i → w'.heap[i]? = w.heap[i]?) : w'.ownsRow base T 2 v n zs := by
  obtain ⟨hl, h0 | ⟨g, cap, cur, e1, e2, e3, e4⟩⟩ := h
  · exact ⟨hl, Or.inl h0⟩
  · exact ⟨hl, Or.inr ⟨g, cap, cur, e1, e2, (hb g (by rw [e1]; rfl)).trans e3, e4⟩⟩
theorem map_same {w w' : World} {m : Nat} {pl : Int → Option Nat} {sz : Nat} (h : MapIn w m pl sz) (hb : w'.heap[m]? = w.heap[m]?) : MapIn w' m pl sz := by
  obtain ⟨D, ⟨es, cl, h1, h2⟩, h3⟩ := h
  exact ⟨D, ⟨es, cl, hb.trans h1, h2⟩, h3⟩
/-- Two alarms that share nothing. -/
def Two (g : Nat) (u : Option Nat) (m : Nat) (g' : Nat) (u' : Option Nat) (m' : Nat) : Prop := g ≠ g' ∧ m ≠ m' ∧ ∀ i, u = some i → u' ≠ some i
theorem Two.symm {g : Nat} {u : Option Nat} {m g' : Nat} {u' : Option Nat} {m' : Nat} (h : Two g u m g' u' m') : Two g' u' m' g u m := ⟨h.1.symm, h.2.1.symm, fun i e e' => h.2.2 i e' e⟩
/-- The other ones stay as they are. -/
theorem Al.other {w w' : World} {base g : Nat} {u : Option Nat} {m : Nat} {L : List Due} {last : Int} {base' g' : Nat} {u' : Option Nat} {m' : Nat} {L' : List Due} {last' : Int} (h : Al w base g u m L last) (h' : Al w base' g' u' m' L' last') (ap : Two g u m g' u' m') (hk : Kept w w' g u m) : Al w' base' g' u' m' L' last' := by
  obtain ⟨s, hM, _⟩ := id h.ex
  obtain ⟨s', hM', hL'⟩ := id h'.ex
  obtain ⟨v, a1, a2, a3⟩ := hM.ex
  obtain ⟨v', b1, b2, b3⟩ := hM'.ex
  obtain ⟨es, cl, hm⟩ := map_block hM.map
  obtain ⟨es', cl', hm'⟩ := map_block hM'.map
  have ug : ∀ {v v' : Value} {n : Nat} {zs : List Value} {cs : Array Value} {k : Nat} {B : Nat}, w.ownsRow B 38 2 v n zs → w.heap[k]? = some (.cells cs 62 (0, 0)) → v.ownBlock ≠ some k := fun ho hg => own_other ho hg
  refine ⟨⟨s', ⟨⟨v', (hk.block g' (blk_lt b1) (fun e => ap.1 e.symm) (fun e => own_other a2 b1 (a3.trans e)) (fun e => by rw [e, hm] at b1; cases b1)).trans b1, own_same b2 (fun i hi => hk.block i (b2.lt i hi).2 (fun e => own_other b2 a1 (by rw [hi, e])) (fun e => ap.2.2 i e (b3 ▸ hi)) (fun e => own_no_map b2 hm (by rw [hi, e]))), b3⟩, map_same hM'.map (hk.block m' (blk_lt hm') (fun e => by rw [e, a1] at hm'; cases hm') (fun e => own_no_map a2 hm' (a3.trans e)) (fun e => ap.2.1 e.symm)), hM'.base_g, hM'.base_m⟩, hL'⟩, h'.low, h'.top, h'.cnt⟩
theorem Two.put {w : World} {g : Nat} {u : Option Nat} {m : Nat} {last' : Int} {L' : List Due} {base' g' : Nat} {u' : Option Nat} {m' : Nat} (h' : Al w base' g' u' m' L' last') (ap : Two g u m g' u' m') {u1 : Option Nat} (hu : ∀ i, u1 = some i → u = some i ∨ w.heap.size ≤ i) : Two g u1 m g' u' m' := by
  refine ⟨ap.1, ap.2.1, fun i hi e => ?_⟩
  rcases hu i hi with h | h
  · exact ap.2.2 i h e
  · have := (h'.bounds.2.2 i e).2
    omega
/-- Alarms, since the law began. -/
def At (w0 : World) (B g : Nat) (L : List Due) (last : Int) (w : World) : Prop := ∃ u m, Al w B g u m L last ∧ Below w0.heap.size w0 w ∧ w0.heap.size ≤ B
theorem At.put {w0 w w' : World} {B g : Nat} {u : Option Nat} {m : Nat} {L L' : List Due} {last last' : Int} (h : Al w B g u m L last) (hb : Below w0.heap.size w0 w) (hB : w0.heap.size ≤ B) (hp : Put w B g u m L' last' w') : At w0 B g L' last' w' := by
  have := put_below hb h hp hB
  obtain ⟨u', ha, _, _⟩ := hp
  exact ⟨u', m, ha, this, hB⟩
theorem At.on {w0 w w' : World} {B g : Nat} {L : List Due} {last : Int} (h : At w0 B g L last w) (hb : Below w.heap.size w w') : At w0 B g L last w' := by
  obtain ⟨u, m, ha, h1, h2⟩ := h
  exact ⟨u, m, ha.on hb, seqB h1 hb, h2⟩
theorem At.below {w0 w : World} {B g : Nat} {L : List Due} {last : Int} (h : At w0 B g L last w) : Below w0.heap.size w0 w := by
  obtain ⟨u, m, _, h1, _⟩ := h
  exact h1
theorem made_two (w : World) (x y z t : Int) (T : TypeId) (fr : Nat × Nat) : DuesIn (w.alloc (.cells #[.int .i64 x, .int .i64 y, .int .i64 z, .int .i64 t] T fr)) (some ⟨w.heap.size, 0, none⟩) 2 [(x, y), (z, t)] := fun _ => ⟨_, _, rfl, fun i hi => by
  have h := heap_alloc_new w (.cells #[.int .i64 x, .int .i64 y, .int .i64 z, .int .i64 t] T fr)
  obtain rfl | rfl : i = 0 ∨ i = 1 := by omega
  · exact ⟨cell_of_row _ _ 0 _ _ _ h, cell_of_row _ _ 1 _ _ _ h⟩
  · exact ⟨cell_of_row _ _ 2 _ _ _ h, cell_of_row _ _ 3 _ _ _ h⟩⟩
end Go.Proofs.Ytpohfcjmjfhdoaa

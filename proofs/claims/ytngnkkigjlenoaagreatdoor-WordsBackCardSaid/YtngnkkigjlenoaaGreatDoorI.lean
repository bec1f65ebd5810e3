/-
  What a replacer of single bytes is in memory. Conditions: as each states.
-/
import Derived.Test.YtngnkkigjlenoaaGreatDoorI0
import Derived.Laws.NewBlocks
namespace Go.Proofs.YtngnkkigjlenoaaGreatDoor
open Go.RowKit

abbrev TB : Nat := 90
def nilS : Value := .slice none 0 0
/-- A sign's bytes. -/
def SG (w : World) (v : Value) (xs : List Int) : Prop := if xs = [] then v = nilS else ∃ b c cs fr, v = .slice (some ⟨b, 0, none⟩) xs.length c ∧ xs.length ≤ c ∧ c ≤ 9223372036854775807 ∧ w.heap[b]? = some (.cells cs 5 fr) ∧ ∀ i, i < xs.length → cs[i]? = some (.int .u8 (xs.getD i 0))
/-- A replacer in the block H: g tells each sign's bytes, ts the signs that have some. -/
structure RB (w0 : World) (H : Nat) (w : World) (ts : List ByteArray) (g : Nat → List Int) : Prop where
  cs : ∃ q d cs, BAt TB w H cs ∧ cs.size = 257 ∧ (∀ i, i < 256 → ∃ v, cs[i]? = some v ∧ SG w v (g i)) ∧ cs[256]? = some (.slice q ts.length d) ∧ Strs w w0.heap.size q ts.length d ts
  low : Below w0.heap.size w0 w
  hi : w0.heap.size ≤ H
theorem SG.kept {w w' : World} {v : Value} {xs : List Int} (h : SG w v xs) (hk : ∀ (b : Nat) (cs : Array Value) (fr : Nat × Nat), w.heap[b]? = some (.cells cs 5 fr) → w'.heap[b]? = w.heap[b]?) : SG w' v xs := by
  unfold SG at h ⊢
  by_cases hx : xs = []
  · rw [if_pos hx] at h ⊢
    exact h
  · rw [if_neg hx] at h ⊢
    obtain ⟨b, c, cs, fr, e, h1, h2, h3, h4⟩ := h
    exact ⟨b, c, cs, fr, e, h1, h2, (hk b cs fr h3).trans h3, h4⟩
theorem RB.on {w0 : World} {H : Nat} {w w' : World} {ts : List ByteArray} {g : Nat → List Int} (h : RB w0 H w ts g) (hb : Below w.heap.size w w') : RB w0 H w' ts g := by
  obtain ⟨q, d, cs, h1, h2, h3, h4, h5⟩ := h.cs
  refine ⟨⟨q, d, cs, h1.on hb, h2, fun i hi => ?_, h4, own_on h5 hb⟩, h.low.trans (hb.mono h.low.size), h.hi⟩
  obtain ⟨v, e, hv⟩ := h3 i hi
  exact ⟨v, e, hv.kept fun b cs fr hb' => hb.block b (blk_lt hb')⟩
theorem own_type {w : World} {base T K n g : Nat} {v : Value} {zs : List Value} {cs : Array Value} {T' : Nat} {fr : Nat × Nat} (ho : w.ownsRow base T K v n zs) (hg : w.heap[g]? = some (.cells cs T' fr)) (ht : T ≠ T') : v.ownBlock ≠ some g := by
  rcases ho.2 with ⟨rfl, _⟩ | ⟨b, cap, cur, rfl, _, hh, _⟩
  · simp [Value.ownBlock]
  · intro he
    have e : b = g := by simpa [Value.ownBlock] using he
    subst e
    rw [hh] at hg
    injection hg with hg
    injection hg with _ hg
    exact ht hg
theorem own_type' {w : World} {base T K n H : Nat} {v : Value} {zs : List Value} {cs : Array Value} {T' : Nat} (ho : w.ownsRow base T K v n zs) (hg : BAt T' w H cs) (ht : T ≠ T') : v.ownBlock ≠ some H := own_type ho hg ht
theorem set_keeps {w : World} {H i b : Nat} {cs ds : Array Value} {T T' : Nat} {fr : Nat × Nat} (h : BAt T w H cs) (hb : w.heap[b]? = some (.cells ds T' fr)) (ht : T' ≠ T) (u : Value) : (w.setCell ⟨H, i, none⟩ u).heap[b]? = w.heap[b]? :=
  heap_setCell_other w ⟨H, i, none⟩ b u (h.not hb ht)
/-- One sign more. -/
theorem RB.round {w0 : World} {H : Nat} {wr : World} {ts : List ByteArray} {g : Nat → List Int} (h : RB w0 H wr ts g) (o : Nat) (ho : o < 256) (hgo : g o = []) (hts : ts.length ≤ 10) (s n : ByteArray) (hn : 0 < n.size) (hn2 : n.size ≤ 100) :
    ∃ q d q' d' w3 c w5, wr.cell? ⟨H, o, none⟩ = some nilS ∧ wr.cell? ⟨H, 256, none⟩ = some (.slice q ts.length d) ∧
      (∀ ty, (Builtin.append_ #[22, 22] ty #[.slice q ts.length d, .slice (some ⟨wr.heap.size + 1, 0, none⟩) 1 1]).run Tryz.prog ((wr.alloc (.cells #[.int .u8 o] 5)).alloc (.cells #[.string s] 9)) = .ok (.slice q' (ts.length + 1) d') w3) ∧
      w3.cell? ⟨H, 256, none⟩ = some (.slice q ts.length d) ∧ w3.frozen? ⟨H, 256, none⟩ = false ∧
      (convert 9 40 (.string n)).run Tryz.prog (w3.setCell ⟨H, 256, none⟩ (.slice q' (ts.length + 1) d')) = .ok (.slice (some ⟨w3.heap.size, 0, none⟩) n.size c) w5 ∧
      w5.cell? ⟨H, o, none⟩ = some nilS ∧ w5.frozen? ⟨H, o, none⟩ = false ∧
      RB w0 H (w5.setCell ⟨H, o, none⟩ (.slice (some ⟨w3.heap.size, 0, none⟩) n.size c)) (ts ++ [s]) (fun i => if i = o then nums n else g i) := by
  obtain ⟨q, d, cs, h1, h2, h3, h4, h5⟩ := h.cs
  have hlo := h.low.size
  have hHl := h1.lt
  have b1 : Below wr.heap.size wr (wr.alloc (.cells #[.int .u8 o] 5)) := (Below.refl _ _).alloc (Nat.le_refl _) _
  have s1 : (wr.alloc (.cells #[.int .u8 o] 5)).heap.size = wr.heap.size + 1 := by simp
  obtain ⟨q', d', w3, r1, r2, r3, r4, r5⟩ := app_txt (w0 := w0) (own_on h5 b1) (by rw [s1]; omega) (h.low.trans (b1.mono hlo)) (by omega) s
  rw [s1] at r1 r4 r5
  have hb3 : ∀ (b : Nat) (ds : Array Value) (T : Nat) (fr : Nat × Nat), wr.heap[b]? = some (.cells ds T fr) → T ≠ 9 → w3.heap[b]? = wr.heap[b]? := fun b ds T fr hb ht => by
    have hl := blk_lt hb
    have e1 := b1.block b hl
    have hb' := e1.trans hb
    exact (r4 b (by omega) (own_type (own_on h5 b1) hb' (Ne.symm ht))).trans e1
  have a3 : BAt TB w3 H cs := (hb3 H cs TB _ h1 (by decide)).trans h1
  obtain ⟨v0, e0, hv0⟩ := h3 o ho
  obtain rfl : v0 = nilS := by unfold SG at hv0; rw [if_pos hgo] at hv0; exact hv0
  have s4 : (w3.setCell ⟨H, 256, none⟩ (.slice q' (ts.length + 1) d')).heap.size = w3.heap.size := by simp
  obtain ⟨c, w5, k1, k2, k3, k4, k5, k6, cs5, fr5, k7, k8⟩ := conv_text n (by omega) (w3.setCell ⟨H, 256, none⟩ (.slice q' (ts.length + 1) d'))
  rw [s4] at k1 k2 k6 k7
  have a4 : BAt TB (w3.setCell ⟨H, 256, none⟩ (.slice q' (ts.length + 1) d')) H (cs.setIfInBounds 256 (.slice q' (ts.length + 1) d')) := a3.set 256 _
  have a5 := a4.on k3
  have a6 := a5.set o (.slice (some ⟨w3.heap.size, 0, none⟩) n.size c)
  have hH3 := a3.lt
  have hcs : ∀ i, i < 256 → (cs.setIfInBounds 256 (.slice q' (ts.length + 1) d'))[i]? = cs[i]? := fun i hi => by
    rw [Array.getElem?_setIfInBounds, if_neg (by omega)]
  have hkeep : ∀ (b : Nat) (ds : Array Value) (fr : Nat × Nat), wr.heap[b]? = some (.cells ds 5 fr) → (w5.setCell ⟨H, o, none⟩ (.slice (some ⟨w3.heap.size, 0, none⟩) n.size c)).heap[b]? = wr.heap[b]? := fun b ds fr hb => by
    have e3 := hb3 b ds _ fr hb (by decide)
    have hb' := e3.trans hb
    have e4 := set_keeps (i := 256) a3 hb' (by decide) (.slice q' (ts.length + 1) d')
    have hb4 := e4.trans hb'
    have e5 := k3.block b (blk_lt hb4)
    have hb5 := e5.trans hb4
    exact (set_keeps a5 hb5 (by decide) _).trans (e5.trans (e4.trans e3))
  refine ⟨q, d, q', d', w3, c, w5, (h1.cell o).trans e0, (h1.cell 256).trans h4, r1, (a3.cell 256).trans h4, a3.frz 256, k1, ?_, a5.frz o, ⟨⟨q', d', _, a6, ?_, ?_, ?_, ?_⟩, ?_, h.hi⟩⟩
  · rw [a5.cell o, hcs o ho]
    exact e0
  · simp [h2]
  · intro i hi
    by_cases hio : i = o
    · subst hio
      refine ⟨_, by rw [Array.getElem?_setIfInBounds, if_pos rfl, if_pos (by simp; omega)], ?_⟩
      unfold SG
      have hne : nums n ≠ [] := fun e => by
        have := nums_length n
        rw [e] at this
        simp at this
        omega
      rw [if_pos rfl, if_neg hne, nums_length]
      have hkb : (w5.setCell ⟨H, i, none⟩ (.slice (some ⟨w3.heap.size, 0, none⟩) n.size c)).heap[w3.heap.size]? = some (.cells cs5 5 fr5) := (set_keeps a5 k7 (by decide) _).trans k7
      refine ⟨_, c, cs5, fr5, rfl, k4, k5, hkb, fun j hj => ?_⟩
      obtain ⟨b', o', e', hc⟩ := k2.at hn
      cases e'
      have := hc j hj
      simp only [World.cell?, k7, Nat.zero_add] at this
      simpa using this
    · obtain ⟨v, e, hv⟩ := h3 i hi
      refine ⟨v, by rw [Array.getElem?_setIfInBounds, if_neg (fun e' => hio e'.symm), hcs i hi]; exact e, ?_⟩
      rw [if_neg hio]
      exact hv.kept hkeep
  · rw [Array.getElem?_setIfInBounds, if_neg (by omega), Array.getElem?_setIfInBounds, if_pos rfl, if_pos (by omega), List.length_append, List.length_singleton]
  · rw [List.length_append, List.length_singleton]
    have t4 : Strs (w3.setCell ⟨H, 256, none⟩ (.slice q' (ts.length + 1) d')) w0.heap.size q' (ts.length + 1) d' (ts ++ [s]) := ownsRow_setCell_other r2 (own_type' r2 a3 (by decide)) _
    have t5 := own_on t4 k3
    exact ownsRow_setCell_other t5 (own_type' t5 a5 (by decide)) _
  · exact (((r3.setCell (p := ⟨H, 256, none⟩) h.hi _).trans (k3.mono (by rw [s4]; omega))).setCell (p := ⟨H, o, none⟩) h.hi _)
end Go.Proofs.YtngnkkigjlenoaaGreatDoor

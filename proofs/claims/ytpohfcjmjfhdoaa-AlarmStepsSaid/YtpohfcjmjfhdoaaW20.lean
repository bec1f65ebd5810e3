/-
  Two alarms that share nothing, since a law began; what is taken in two steps. Conditions: as each states.
-/
import Derived.Test.YtpohfcjmjfhdoaaH4
namespace Go.Proofs.Ytpohfcjmjfhdoaa
open Go.RowKit Go.Sort Go.Maps

/-- Two alarms that share nothing, since the law began. -/
def Both (w0 : World) (B g : Nat) (L : List Due) (last : Int) (B' g' : Nat) (L' : List Due) (last' : Int) (w : World) : Prop :=
  ∃ u m u' m', Al w B g u m L last ∧ Al w B' g' u' m' L' last' ∧ Two g u m g' u' m' ∧ Below w0.heap.size w0 w ∧ w0.heap.size ≤ B ∧ w0.heap.size ≤ B'
theorem Both.left {w0 w : World} {B g : Nat} {L : List Due} {last : Int} {B' g' : Nat} {L' : List Due} {last' : Int} (h : Both w0 B g L last B' g' L' last' w) : At w0 B g L last w := by
  obtain ⟨u, m, u', m', h1, h2, h3, h4, h5, h6⟩ := h
  exact ⟨u, m, h1, h4, h5⟩
theorem Both.swap {w0 w : World} {B g : Nat} {L : List Due} {last : Int} {B' g' : Nat} {L' : List Due} {last' : Int} (h : Both w0 B g L last B' g' L' last' w) : Both w0 B' g' L' last' B g L last w := by
  obtain ⟨u, m, u', m', h1, h2, h3, h4, h5, h6⟩ := h
  exact ⟨u', m', u, m, h2, h1, h3.symm, h4, h6, h5⟩
theorem Both.right {w0 w : World} {B g : Nat} {L : List Due} {last : Int} {B' g' : Nat} {L' : List Due} {last' : Int} (h : Both w0 B g L last B' g' L' last' w) : At w0 B' g' L' last' w := h.swap.left
theorem Both.on {w0 w w' : World} {B g : Nat} {L : List Due} {last : Int} {B' g' : Nat} {L' : List Due} {last' : Int} (h : Both w0 B g L last B' g' L' last' w) (hb : Below w.heap.size w w') : Both w0 B g L last B' g' L' last' w' := by
  obtain ⟨u, m, u', m', h1, h2, h3, h4, h5, h6⟩ := h
  exact ⟨u, m, u', m', h1.on hb, h2.on hb, h3, seqB h4 hb, h5, h6⟩
theorem both_put {w0 w w' : World} {B g : Nat} {u : Option Nat} {m : Nat} {L : List Due} {last : Int} {B' g' : Nat} {u' : Option Nat} {m' : Nat} {L' : List Due} {last' : Int} (h1 : Al w B g u m L last) (h2 : Al w B' g' u' m' L' last') (h3 : Two g u m g' u' m') (h4 : Below w0.heap.size w0 w) (h5 : w0.heap.size ≤ B) (h6 : w0.heap.size ≤ B') {L1 : List Due} {last1 : Int} (hp : Put w B g u m L1 last1 w') : Both w0 B g L1 last1 B' g' L' last' w' := by
  have hb := put_below h4 h1 hp h5
  obtain ⟨u1, ha, hu, hk⟩ := hp
  exact ⟨u1, m, u', m', ha, h1.other h2 h3 hk, Two.put h2 h3 hu, hb, h5, h6⟩
theorem both_far {w0 w w' : World} {B g : Nat} {u : Option Nat} {m : Nat} {L : List Due} {last : Int} (h1 : Al w B g u m L last) (h4 : Below w0.heap.size w0 w) (h5 : w0.heap.size ≤ B) (hb : Below w.heap.size w w') {g' : Nat} {u' : Option Nat} {m' : Nat} {L' : List Due} {last' : Int} (h2 : Al w' w.heap.size g' u' m' L' last') : Both w0 B g L last w.heap.size g' L' last' w' := by
  have b1 := h1.bounds
  have b2 := h2.bounds
  refine ⟨u, m, u', m', h1.on hb, h2, ⟨by omega, by omega, fun i e e' => ?_⟩, seqB h4 hb, h5, h4.size⟩
  have c1 := b1.2.2 i e
  have c2 := b2.2.2 i e'
  omega
theorem new_two {w0 w : World} {B g : Nat} {L : List Due} {last : Int} (h : At w0 B g L last w) : Calls Try.prog 10 #[] w fun e w' => e = .returned (.pointer (some ⟨w.heap.size + 1, 0, none⟩)) ∧ Both w0 B g L last w.heap.size (w.heap.size + 1) [] 0 w' := by
  obtain ⟨u, m, h1, h4, h5⟩ := h
  refine (new_al w).mono ?_
  rintro e w' ⟨rfl, ha, hb⟩
  exact ⟨rfl, both_far h1 h4 h5 hb ha⟩
theorem copy_two {w0 w : World} {B g : Nat} {L : List Due} {last : Int} (h : At w0 B g L last w) : Calls Try.prog 22 #[.pointer (some ⟨g, 0, none⟩)] w fun e w' => ∃ g', e = .returned (.pointer (some ⟨g', 0, none⟩)) ∧ Both w0 B g L last w.heap.size g' L last w' ∧ Below w.heap.size w w' := by
  obtain ⟨u, m, h1, h4, h5⟩ := h
  refine (copy_al h1).mono ?_
  rintro e w' ⟨g', u', m', rfl, ha, hb⟩
  exact ⟨g', rfl, both_far h1 h4 h5 hb ha, hb⟩
/-- What does hands back, and what becomes of the first of two. -/
def ToldB (w0 w : World) (B g : Nat) (B' g' : Nat) (L' : List Due) (last' : Int) (x : Ans) (e : Ending) (w' : World) : Prop := ∃ p n c, e = .returned (.agg #[.int .i64 x.N, .bool x.is, .int .i64 x.E, .slice p n c]) ∧ RowIn w' p n c x.out ∧ Both w0 B g x.ds x.last B' g' L' last' w' ∧ Keeps w w'
theorem does_b {w0 w : World} {B g : Nat} {L : List Due} {last : Int} {B' g' : Nat} {L' : List Due} {last' : Int} (h : Both w0 B g L last B' g' L' last' w) (hl : last ≤ 1000) {kind a id : Int} (hi : Wf64 id) :
    Calls Try.prog 13 #[.pointer (some ⟨g, 0, none⟩), .agg #[.int .i64 kind, .int .i64 a, .int .i64 id]] w (ToldB w0 w B g B' g' L' last' (doL L last kind a id)) := by
  have hb := h.left.bounds
  obtain ⟨u, m, u', m', h1, h2, h3, h4, h5, h6⟩ := h
  refine (does_al h1 (by omega) (by omega) hi).mono ?_
  rintro e w' ⟨p, n, c, rfl, hr, hp⟩
  exact ⟨p, n, c, rfl, hr, both_put h1 h2 h3 h4 h5 h6 hp, keeps_put h1 hp⟩
/-- Two alarms all whose blocks lie below Z. -/
def BothZ (w0 : World) (Z B g : Nat) (L : List Due) (last : Int) (B' g' : Nat) (L' : List Due) (last' : Int) (w : World) : Prop :=
  ∃ u m u' m', Al w B g u m L last ∧ Al w B' g' u' m' L' last' ∧ Two g u m g' u' m' ∧ Below w0.heap.size w0 w ∧ w0.heap.size ≤ B ∧ w0.heap.size ≤ B' ∧ (g < Z ∧ m < Z ∧ ∀ i, u = some i → i < Z) ∧ (g' < Z ∧ m' < Z ∧ ∀ i, u' = some i → i < Z) ∧ Z ≤ w.heap.size ∧ w0.heap.size ≤ Z
theorem Both.low {w0 w : World} {B g : Nat} {L : List Due} {last : Int} {B' g' : Nat} {L' : List Due} {last' : Int} (h : Both w0 B g L last B' g' L' last' w) : BothZ w0 w.heap.size B g L last B' g' L' last' w := by
  obtain ⟨u, m, u', m', h1, h2, h3, h4, h5, h6⟩ := h
  have b1 := h1.bounds
  have b2 := h2.bounds
  exact ⟨u, m, u', m', h1, h2, h3, h4, h5, h6, ⟨b1.1.2, b1.2.1.2, fun i e => (b1.2.2 i e).2⟩, ⟨b2.1.2, b2.2.1.2, fun i e => (b2.2.2 i e).2⟩, Nat.le_refl _, h4.size⟩
theorem BothZ.both {w0 w : World} {Z B g : Nat} {L : List Due} {last : Int} {B' g' : Nat} {L' : List Due} {last' : Int} (h : BothZ w0 Z B g L last B' g' L' last' w) : Both w0 B g L last B' g' L' last' w := by
  obtain ⟨u, m, u', m', h1, h2, h3, h4, h5, h6, _⟩ := h
  exact ⟨u, m, u', m', h1, h2, h3, h4, h5, h6⟩
/-- What is taken of the first: the second stays, and so do the rows from Z on. -/
theorem take_z {w0 w : World} {Z B g : Nat} {L : List Due} {last : Int} {B' g' : Nat} {L' : List Due} {last' : Int} (h : BothZ w0 Z B g L last B' g' L' last' w) (now : Int) {K : Nat} (hK : dueN L now = K) {O D : List Due} (hO : L.take K = O) (hD : L.drop K = D) :
    Calls Try.prog 21 #[.pointer (some ⟨g, 0, none⟩), .int .i64 now] w fun e w' => GotT w.heap.size O K e w' ∧ BothZ w0 Z B g D last B' g' L' last' w' ∧ Keeps w w' ∧ ∀ i, Z ≤ i → i < w.heap.size → w'.heap[i]? = w.heap[i]? := by
  obtain ⟨u, m, u', m', h1, h2, h3, h4, h5, h6, h7, h8, h9, h10⟩ := h
  refine (take_al h1 now).mono ?_
  rintro e w' ⟨q, d, rfl, hT⟩
  subst hK hO hD
  have hp := put_here hT.al hT.kept
  have hs := hT.kept.size
  refine ⟨⟨q, d, rfl, hT.own⟩, ⟨u, m, u', m', hT.al, h1.other h2 h3 hT.kept, h3, put_below h4 h1 hp h5, h5, h6, h7, h8, by omega, h10⟩, keeps_put h1 hp, fun i hi hw => hT.kept.block i hw (by have := h7.1; omega) (fun e => by have := h7.2.2 i e; omega) (by have := h7.2.1; omega)⟩
theorem BothZ.grown {w0 w w' : World} {Z B g : Nat} {L : List Due} {last : Int} {B' g' : Nat} {L' : List Due} {last' : Int} {row : Option Nat} (h : BothZ w0 Z B g L last B' g' L' last' w) (hg : w.grownBy w' row) (hr : ∀ i, row = some i → Z ≤ i) : BothZ w0 Z B g L last B' g' L' last' w' := by
  obtain ⟨u, m, u', m', h1, h2, h3, h4, h5, h6, h7, h8, h9, h10⟩ := h
  have hs := hg.size
  refine ⟨u, m, u', m', h1.grown hg ?_ ?_ ?_, h2.grown hg ?_ ?_ ?_, h3, h4.trans ⟨hg.os, hg.tape, hg.output, hg.size, fun i hi => hg.block i (by have := h4.size; omega) (fun e => by have := hr i e.symm; omega)⟩, h5, h6, h7, h8, by omega, h10⟩
  · intro e; have := hr _ e; have := h7.1; omega
  · intro e; have := hr _ e; have := h7.2.1; omega
  · intro i e e'; have := hr _ e'; have := h7.2.2 i e; omega
  · intro e; have := hr _ e; have := h8.1; omega
  · intro e; have := hr _ e; have := h8.2.1; omega
  · intro i e e'; have := hr _ e'; have := h8.2.2 i e; omega
/-- What is due early, and then what is due late. -/
theorem due_steps (L : List Due) {x y : Int} (h : x ≤ y) : dueN L y = dueN L x + dueN (L.drop (dueN L x)) y := by
  induction L with
  | nil => rfl
  | cons d r ih =>
    by_cases e : d.1 ≤ x
    · have e' : d.1 ≤ y := Int.le_trans e h
      have h1 : dueN (d :: r) x = dueN r x + 1 := by simp [dueN, e]
      have h2 : dueN (d :: r) y = dueN r y + 1 := by simp [dueN, e']
      rw [h1, h2, List.drop_succ_cons]
      omega
    · have h1 : dueN (d :: r) x = 0 := by simp [dueN, e]
      rw [h1, List.drop_zero, Nat.zero_add]
theorem take_steps (L : List Due) (a b : Nat) : L.take a ++ (L.drop a).take b = L.take (a + b) := List.take_add.symm
end Go.Proofs.Ytpohfcjmjfhdoaa

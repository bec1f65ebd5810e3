/-
  Contracts: a ring's calls beside blocks of other kinds, which stay as they are. Conditions: as each states.
-/
import Derived.Test.YtkjljnfhnkaocaaW12
namespace Go.Proofs.Ytkjljnfhnkaocaa
open Go.RowKit

/-- Blocks that are no ring's, and no row's of bytes, are as they were. -/
def Keeps (w w' : World) : Prop := ∀ (i : Nat) cs T fr, T ≠ 53 → T ≠ 5 → w.heap[i]? = some (.cells cs T fr) → w'.heap[i]? = some (.cells cs T fr)
theorem blk_lt {w : World} {g : Nat} {o : Obj} (h : w.heap[g]? = some o) : g < w.heap.size := (Array.getElem?_eq_some_iff.1 h).1
theorem keeps_below {w w' : World} (h : Below w.heap.size w w') : Keeps w w' := fun i _ _ _ _ _ hi => (h.block i (blk_lt hi)).trans hi
theorem Rg.apart {w : World} {B g : Nat} {u : Option Nat} {room : Int} {xs : List Int} (h : Rg w B g u room xs) {i : Nat} {cs : Array Value} {T : TypeId} {fr : Nat × Nat} (h53 : T ≠ 53) (h5 : T ≠ 5) (hi : w.heap[i]? = some (.cells cs T fr)) : i ≠ g ∧ u ≠ some i := by
  obtain ⟨v, full, G, hr, _, rfl, _⟩ := h.ex
  refine ⟨?_, ?_⟩
  · rintro rfl
    have e := hr.blk
    rw [hi] at e
    simp at e
    exact h53 e.2.1
  · intro e
    rcases hr.own.2 with ⟨rfl, _⟩ | ⟨b, cap, cur, rfl, _, hh, _⟩
    · simp [Value.ownBlock] at e
    · have : b = i := by simpa [Value.ownBlock] using e
      subst this
      rw [hi] at hh
      simp at hh
      exact h5 hh.2.1
theorem keeps_put {w w' : World} {B g : Nat} {u : Option Nat} {room : Int} {xs ys : List Int} (h : Rg w B g u room xs) (hp : Put w B g u room ys w') : Keeps w w' := fun i cs T fr h53 h5 hi => by
  obtain ⟨_, _, _, hk⟩ := hp
  obtain ⟨h1, h2⟩ := h.apart h53 h5 hi
  exact (hk.block i (blk_lt hi) h1 h2).trans hi
/-- Where a block of another kind is written. -/
theorem Rg.set {w : World} {B g : Nat} {u : Option Nat} {room : Int} {xs : List Int} (h : Rg w B g u room xs) {i : Nat} {cs : Array Value} {T : TypeId} {fr : Nat × Nat} (h53 : T ≠ 53) (h5 : T ≠ 5) (hi : w.heap[i]? = some (.cells cs T fr)) (j : Nat) (v : Value) : Rg (w.setCell ⟨i, j, none⟩ v) B g u room xs := by
  obtain ⟨h1, h2⟩ := h.apart h53 h5 hi
  obtain ⟨v', full, G, hr, hd, hu, hG⟩ := h.ex
  exact ⟨⟨v', full, G, ⟨(Below.heap_setCell w ⟨i, j, none⟩ v g (fun e => h1 e.symm)).trans hr.blk, ownsRow_setCell_other hr.own (by rw [hu]; exact h2) _, hr.le, hr.base, hr.room0, hr.room1⟩, hd, hu, hG⟩, h.all⟩
theorem At.set {w0 w : World} {B g : Nat} {room : Int} {xs : List Int} (h : At w0 B g room xs w) {i : Nat} {cs : Array Value} {T : TypeId} {fr : Nat × Nat} (h53 : T ≠ 53) (h5 : T ≠ 5) (hi : w.heap[i]? = some (.cells cs T fr)) (hw : w0.heap.size ≤ i) (j : Nat) (v : Value) : At w0 B g room xs (w.setCell ⟨i, j, none⟩ v) := by
  obtain ⟨u, hr, hb, hB⟩ := h
  exact ⟨u, hr.set h53 h5 hi j v, hb.setCell (p := ⟨i, j, none⟩) hw v, hB⟩
/-- The document's ring, set anew. -/
theorem At.set_q {w0 w : World} {B g gq : Nat} {room : Int} {xs : List Int} {a b a' b' : Value} (h : At w0 B g room xs w) (hq : w.heap[gq]? = some (.cells #[a, b] 31 (0, 0))) (hw : w0.heap.size ≤ gq) :
    At w0 B g room xs ((w.setCell ⟨gq, 0, none⟩ a').setCell ⟨gq, 1, none⟩ b') ∧ ((w.setCell ⟨gq, 0, none⟩ a').setCell ⟨gq, 1, none⟩ b').heap[gq]? = some (.cells #[a', b'] 31 (0, 0)) := by
  have h1 := set_heap (i := 0) hq a'
  have h2 := set_heap (i := 1) h1 b'
  exact ⟨(h.set (by decide) (by decide) hq hw 0 a').set (by decide) (by decide) h1 hw 1 b', h2⟩
def AtK (w0 w : World) (B g : Nat) (room : Int) (xs : List Int) (w' : World) : Prop := At w0 B g room xs w' ∧ Keeps w w'

theorem len_k {w0 w : World} {B g : Nat} {room : Int} {xs : List Int} (h : At w0 B g room xs w) (n : Nat) (hn : xs.length = n) :
    Calls Try.prog 16 #[.pointer (some ⟨g, 0, none⟩)] w fun e w' => e = .returned (.int .i64 (n : Int)) ∧ AtK w0 w B g room xs w' := by
  obtain ⟨u, hr, hb, hB⟩ := h
  refine (len_any hr).mono ?_
  rintro e w' ⟨rfl, m, rfl⟩
  exact ⟨by rw [hn], ⟨u, hr.drewN m, below_drawn hb m, hB⟩, keeps_below (below_drewN w m)⟩
theorem free_k {w0 w : World} {B g : Nat} {room : Int} {xs : List Int} (h : At w0 B g room xs w) (n : Nat) (hn : room.toNat - xs.length = n) :
    Calls Try.prog 18 #[.pointer (some ⟨g, 0, none⟩)] w fun e w' => e = .returned (.int .i64 (n : Int)) ∧ AtK w0 w B g room xs w' := by
  obtain ⟨u, hr, hb, hB⟩ := h
  refine (free_any hr).mono ?_
  rintro e w' ⟨rfl, hb'⟩
  exact ⟨by rw [hn], ⟨u, hr.on hb', seqB hb hb', hB⟩, keeps_below hb'⟩
/-- What Peek and Read hand back, as a text. -/
def TextK (T : ByteArray) (w0 w : World) (B g : Nat) (room : Int) (xs : List Int) (e : Ending) (w' : World) : Prop := ∃ q n c, e = .returned (.slice q n c) ∧ (convert 40 9 (.slice q n c)).run Try.prog w' = .ok (.string T) w' ∧ AtK w0 w B g room xs w'
theorem peek_k {w0 w : World} {B g : Nat} {room : Int} {xs : List Int} (h : At w0 B g room xs w) (hbig : xs.length ≤ 100000) (N : Int) (T : ByteArray) (hT : T = strOfNums (xs.take (cut N xs.length))) :
    Calls Try.prog 20 #[.pointer (some ⟨g, 0, none⟩), .int .i64 N] w (TextK T w0 w B g room xs) := by
  obtain ⟨u, hr, hb, hB⟩ := h
  refine (peek_any hr (by omega) N).mono ?_
  rintro e w' ⟨v, rfl, ho, hb'⟩
  obtain ⟨q, c, rfl, hl, hi, _⟩ := own_bytes ho
  exact ⟨q, _, c, rfl, by rw [hT]; exact conv_bytes hi hl c, ⟨u, hr.on hb', seqB hb hb', hB⟩, keeps_below hb'⟩
theorem read_k {w0 w : World} {B g : Nat} {room : Int} {xs : List Int} (h : At w0 B g room xs w) (hbig : xs.length ≤ 100000) (N : Int) (k : Nat) (hk : cut N xs.length = k) (T : ByteArray) (hT : T = strOfNums (xs.take k)) :
    Calls Try.prog 23 #[.pointer (some ⟨g, 0, none⟩), .int .i64 N] w (TextK T w0 w B g room (xs.drop k)) := by
  obtain ⟨u, hr, hb, hB⟩ := h
  have hkl : k ≤ xs.length := by rw [← hk]; exact cut_le _ _
  refine (read_any hr (by omega) N k hk).mono ?_
  rintro e w' ⟨q, c, rfl, hi, _, _, _, hc, _⟩
  exact ⟨q, _, c, rfl, by rw [hT]; exact conv_bytes hi (by rw [List.length_take]; omega) c, At.put hr hb hB hc.put, keeps_put hr hc.put⟩
theorem force_k {w0 w : World} {B g : Nat} {room : Int} {xs : List Int} (h : At w0 B g room xs w) {p : Option Addr} {n c : Nat} {ys : List Int} (hy : ys.length = n) (hb : AllB ys) (hpc : p = none → c = 0) (hi : Lib.BytesIn w p n ys) (hbig : xs.length ≤ 100000) (hbn : n ≤ 100000) :
    Calls Try.prog 22 #[.pointer (some ⟨g, 0, none⟩), .slice p n c] w fun e w' => e = .returned (.tuple #[]) ∧ AtK w0 w B g room (xs ++ ys) w' := by
  obtain ⟨u, hr, hb', hB⟩ := h
  refine (force_any hr hy hb hpc hi (by omega)).mono ?_
  rintro e w' ⟨rfl, hc⟩
  exact ⟨rfl, At.put hr hb' hB hc, keeps_put hr hc⟩
theorem write_k {w0 w : World} {B g : Nat} {room : Int} {xs : List Int} (h : At w0 B g room xs w) {p : Option Addr} {n c : Nat} {ys : List Int} (hy : ys.length = n) (hb : AllB ys) (hpc : p = none → c = 0) (hi : Lib.BytesIn w p n ys) (hnc : n ≤ c) (hc : c ≤ 9223372036854775807) (hbig : xs.length ≤ 100000) (K : Nat) (hK : min n (room.toNat - xs.length) = K) :
    Calls Try.prog 21 #[.pointer (some ⟨g, 0, none⟩), .slice p n c] w fun e w' => e = .returned (.int .i64 (K : Int)) ∧ AtK w0 w B g room (xs ++ ys.take K) w' := by
  obtain ⟨u, hr, hb', hB⟩ := h
  refine (write_any hr hy hb hpc hi hnc hc (by omega) K hK).mono ?_
  rintro e w' ⟨rfl, hc⟩
  exact ⟨rfl, At.put hr hb' hB hc, keeps_put hr hc⟩
theorem does_k {w0 w : World} {B g : Nat} {room kind N : Int} {S A S' T : ByteArray} {n : Nat} (h : At w0 B g room (nums S) w) (hs : Step S room kind N A S' n T) :
    Calls Try.prog 15 #[.pointer (some ⟨g, 0, none⟩), .agg #[.int .i64 kind, .int .i64 N, .string A]] w fun e w' => e = .returned (.tuple #[.int .i64 n, .string T]) ∧ AtK w0 w B g room (nums S') w' := by
  obtain ⟨u, hr, hb', hB⟩ := h
  refine (hs.does B g u w hr).mono ?_
  rintro e w' ⟨rfl, hc⟩
  exact ⟨rfl, At.put hr hb' hB hc, keeps_put hr hc⟩
/-- Peek only makes memory. -/
theorem peek_b {w0 w : World} {B g : Nat} {room : Int} {xs : List Int} (h : At w0 B g room xs w) (hbig : xs.length ≤ 100000) (N : Int) (T : ByteArray) (hT : T = strOfNums (xs.take (cut N xs.length))) :
    Calls Try.prog 20 #[.pointer (some ⟨g, 0, none⟩), .int .i64 N] w fun e w' => ∃ q n c, e = .returned (.slice q n c) ∧ (convert 40 9 (.slice q n c)).run Try.prog w' = .ok (.string T) w' ∧ Below w.heap.size w w' := by
  obtain ⟨u, hr, hb, hB⟩ := h
  refine (peek_any hr (by omega) N).mono ?_
  rintro e w' ⟨v, rfl, ho, hb'⟩
  obtain ⟨q, c, rfl, hl, hi, _⟩ := own_bytes ho
  exact ⟨q, _, c, rfl, by rw [hT]; exact conv_bytes hi hl c, hb'⟩
theorem whole (S : ByteArray) : S = strOfNums ((nums S).take (cut ((S.size : Int) + 1) (nums S).length)) := by
  rw [nums_length, cut_big (by omega), ← nums_length, List.take_length, str_nums]
/-- A copy, beside the ring. -/
theorem copy_at {w0 w : World} {B g : Nat} {room : Int} {xs : List Int} (h : At w0 B g room xs w) (hbig : xs.length ≤ 100000) :
    Calls Try.prog 24 #[.pointer (some ⟨g, 0, none⟩)] w fun e w' => ∃ g', e = .returned (.pointer (some ⟨g', 0, none⟩)) ∧ At w w.heap.size g' room xs w' := by
  obtain ⟨u, hr, hb, hB⟩ := h
  refine (copy_any hr (by omega)).mono ?_
  rintro e w' ⟨g', u', rfl, hr', hb'⟩
  exact ⟨g', rfl, u', hr', hb', Nat.le_refl _⟩
end Go.Proofs.Ytkjljnfhnkaocaa

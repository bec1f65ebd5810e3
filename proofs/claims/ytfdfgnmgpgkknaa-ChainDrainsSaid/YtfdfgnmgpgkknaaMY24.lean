/-
  A part more, a part less, in a chain. Conditions: as each states.
-/
import Derived.Test.YtfdfgnmgpgkknaaMY23
namespace Go.Proofs.Ytfdfgnmgpgkknaa
open Go.RowKit

def insQ (q : List Nd) (k : Nat) (x : Nd) : List Nd := q.take (k + 1) ++ x :: q.drop (k + 1)
def outQ (q : List Nd) (k : Nat) : List Nd := q.take (k + 1) ++ q.drop (k + 2)
theorem nd_ins (q : List Nd) (k : Nat) (x : Nd) (h : k + 1 ≤ q.length) : (∀ j, j ≤ k → nd (insQ q k x) j = nd q j) ∧ nd (insQ q k x) (k + 1) = x ∧ (∀ j, k + 1 ≤ j → nd (insQ q k x) (j + 1) = nd q j) ∧ (insQ q k x).length = q.length + 1 := by
  obtain ⟨g1, g2, g3, g4⟩ := ins_get q x h
  unfold nd insQ
  simp only [List.getD_eq_getElem?_getD]
  refine ⟨fun j hj => by rw [g1 j (by omega)], by rw [g2]; rfl, fun j hj => ?_, g4⟩
  obtain ⟨t, rfl⟩ : ∃ t, j = k + 1 + t := ⟨j - (k + 1), by omega⟩
  rw [show k + 1 + t + 1 = k + 1 + 1 + t by omega, g3 t, List.getElem?_drop]
theorem nd_out (q : List Nd) (k : Nat) (h : k + 2 ≤ q.length) : (∀ j, j ≤ k → nd (outQ q k) j = nd q j) ∧ (∀ j, k + 1 ≤ j → nd (outQ q k) j = nd q (j + 1)) ∧ (outQ q k).length + 1 = q.length := by
  obtain ⟨g1, g2, g3⟩ := del_get q (i := k + 1) (by omega)
  unfold nd outQ
  simp only [List.getD_eq_getElem?_getD]
  refine ⟨fun j hj => by rw [g1 j (by omega)], fun j hj => ?_, g3⟩
  obtain ⟨t, rfl⟩ : ∃ t, j = k + 1 + t := ⟨j - (k + 1), by omega⟩
  rw [g2 t, List.getElem?_drop]
  congr 2
  omega
theorem sumA_ins (l : List Prt) (k : Nat) (p : Prt) (h : k + 1 ≤ l.length) : (∀ j, j ≤ k + 1 → sumA (Ch.insL l k p) j = sumA l j) ∧ (∀ j, k + 1 ≤ j → sumA (Ch.insL l k p) (j + 1) = sumA l j + p.s.S.size) := by
  refine ⟨fun j hj => ?_, fun j hj => ?_⟩
  · cases j with
    | zero => rfl
    | succ j => exact Ch.sum_lt l k j p h (by omega)
  · obtain ⟨i, rfl⟩ : ∃ i, j = i + 1 := ⟨j - 1, by omega⟩
    exact Ch.sum_ge l k i p h (by omega)
theorem sumA_out (l : List Prt) (k : Nat) (h : k + 2 ≤ l.length) : (∀ j, j ≤ k + 1 → sumA (Ch.outL l k) j = sumA l j) ∧ (∀ j, k + 1 ≤ j → sumA l (j + 1) = sumA (Ch.outL l k) j + (l.getD (k + 1) noPrt).s.S.size) := by
  refine ⟨fun j hj => ?_, fun j hj => ?_⟩
  · cases j with
    | zero => rfl
    | succ j => exact Ch.out_sum_lt l k j h (by omega)
  · obtain ⟨i, rfl⟩ : ∃ i, j = i + 1 := ⟨j - 1, by omega⟩
    exact Ch.out_sum_ge l k i h (by omega)
section
variable {w w' : World} {g b o : Nat} {cap : Nat} {q : List Nd} {c : Ch} {M : Nat}
/-- What lies behind a new row, and the store of it. -/
theorem CAt.past (_h : CAt w g (some ⟨b, o, none⟩) cap q c M) (hg : w.grownBy w' (some b)) (v : Value) {i : Nat} (hi : i < w.heap.size) (h1 : i ≠ b) (h2 : i ≠ g) : (w'.setCell ⟨g, 0, none⟩ v).heap[i]? = w.heap[i]? :=
  (Below.heap_setCell _ _ _ _ h2).trans (hg.block i hi (fun e => by cases e; exact h1 rfl))
theorem CAt.ins {k pp gg : Nat} {U : Own} {s : St} {bb : Bool} {a : Addr} {cap' : Nat} (h : CAt w g (some ⟨b, o, none⟩) cap q c M) (hk : k + 2 ≤ c.L.length) (h9 : c.L.length < 10) (hp : PAt w pp gg U s bb 0) (hd : ∀ i, oneU pp U i → ¬ blkC g (some ⟨b, o, none⟩) q i) (hs0 : s.S.size = 0)
    (hr : gc.ORow w' 0 PT 1 (some a) (c.L.length + 1) cap' ((q.map fun x => ptr x.p).take (k + 1) ++ ptr pp :: (q.map fun x => ptr x.p).drop (k + 1))) (hg : w.grownBy w' (some b)) (ha : a.block = b ∨ w.heap.size ≤ a.block) :
    CAt (w'.setCell ⟨g, 0, none⟩ (.slice (some a) (c.L.length + 1) cap')) g (some a) cap' (insQ q k ⟨pp, gg, U, 0⟩) { c with L := Ch.insL c.L k ⟨s, bb⟩ } M ∧
      Mvd w (orU (blkC g (some ⟨b, o, none⟩) q) (oneU pp U)) (w'.setCell ⟨g, 0, none⟩ (.slice (some a) (c.L.length + 1) cap')) (blkC g (some a) (insQ q k ⟨pp, gg, U, 0⟩)) := by
  have hq := h.len
  obtain ⟨n1, n2, n3, n4⟩ := nd_ins q k ⟨pp, gg, U, 0⟩ (by omega)
  obtain ⟨s1, s2⟩ := sumA_ins c.L k ⟨s, bb⟩ (by omega)
  have hl : (Ch.insL c.L k ⟨s, bb⟩).length = c.L.length + 1 := Ch.len_insL _ _ _ (by omega)
  have p1 : ∀ j, j ≤ k → ({ c with L := Ch.insL c.L k ⟨s, bb⟩ } : Ch).at' j = c.at' j := fun j hj => Ch.insL_lt _ _ _ _ (by omega) hj
  have p2 : ({ c with L := Ch.insL c.L k ⟨s, bb⟩ } : Ch).at' (k + 1) = ⟨s, bb⟩ := Ch.insL_eq _ _ _ (by omega)
  have p3 : ∀ j, k + 1 ≤ j → ({ c with L := Ch.insL c.L k ⟨s, bb⟩ } : Ch).at' (j + 1) = c.at' j := fun j hj => Ch.insL_gt _ _ _ _ (by omega) hj
  have hgb : g ≠ b := fun e => h.r_ne_g rfl e.symm
  have hgl := gb.blk_lt h.blk
  have hob : ∀ i, blkC g (some ⟨b, o, none⟩) q i → i < w.heap.size := fun i hi => h.lt hi
  have hg1 : w'.heap[g]? = w.heap[g]? := hg.block g hgl (fun e => by cases e; exact hgb rfl)
  have hst : ∀ j, j < c.L.length → Rep (w'.setCell ⟨g, 0, none⟩ (.slice (some a) (c.L.length + 1) cap')) (nd q j).U (nd q j).g (c.at' j).s (nd q j).m := fun j hj => rep_on2 (h.stg j hj) fun i hi => h.past hg _ ((rep_lt (h.stg j hj)).2 i hi) (fun e => h.not_r hj rfl (by rw [← e]; exact hi)) (fun e => h.not_g hj (by rw [← e]; exact hi))
  have hpt : ∀ j, j < c.L.length → (w'.setCell ⟨g, 0, none⟩ (.slice (some a) (c.L.length + 1) cap')).heap[(nd q j).p]? = some (.cells (prtC (nd q j).g (c.at' j).closed) 59 (0, 0)) := fun j hj => (h.past hg _ (gb.blk_lt (h.prt j hj)) (fun e => h.r_ne_p hj rfl e.symm) (h.p_ne_g hj)).trans (h.prt j hj)
  have hnb : ∀ i, oneU pp U i → i ≠ b ∧ i ≠ g := fun i hi => ⟨fun e => hd i hi (Or.inr (Or.inl ⟨_, rfl, e.symm⟩)), fun e => hd i hi (Or.inl e)⟩
  have hnew : PAt (w'.setCell ⟨g, 0, none⟩ (.slice (some a) (c.L.length + 1) cap')) pp gg U s bb 0 := hp.keep fun i hi => h.past hg _ (hp.lt hi) (hnb i hi).1 (hnb i hi).2
  refine ⟨⟨?_, ?_, ?_, ?_, fun j hj => ?_, fun j hj => ?_, fun i j hi hj hne => ?_, fun j hj => ?_, ?_, h.top⟩, ⟨⟨⟨hg.os, hg.tape, hg.output, by simpa [World.setCell] using hg.size, fun i hi => absurd hi (Nat.not_lt_zero i)⟩, fun i hi hu => ?_⟩, fun i hi => ?_⟩⟩
  · show (insQ q k _).length = (Ch.insL c.L k _).length
    rw [n4, hl, hq]
  · show (Ch.insL c.L k _).length ≤ 10
    rw [hl]
    omega
  · show _ = some (Obj.cells (chC (some a) (Ch.insL c.L k _).length cap' _) _ _)
    rw [hl]
    have := hg1.trans h.blk
    rw [gb.set_heap this]
    rfl
  · show gc.ORow _ 0 _ 1 (some a) (Ch.insL c.L k _).length cap' _
    rw [hl]
    have e : (insQ q k ⟨pp, gg, U, 0⟩).map (fun x => ptr x.p) = (q.map fun x => ptr x.p).take (k + 1) ++ ptr pp :: (q.map fun x => ptr x.p).drop (k + 1) := by
      unfold insQ
      rw [List.map_append, List.map_cons, List.map_take, List.map_drop]
    rw [e]
    exact hr.set (hg1.trans h.blk) (by decide) 0 _
  · have hj : j < c.L.length + 1 := by rw [← hl]; exact hj
    rcases Nat.lt_trichotomy j (k + 1) with e | rfl | e
    · rw [n1 j (by omega), p1 j (by omega)]
      exact hpt j (by omega)
    · rw [n2, p2]
      exact hnew.prt
    · obtain ⟨j, rfl⟩ : ∃ i, j = i + 1 := ⟨j - 1, by omega⟩
      rw [n3 j (by omega), p3 j (by omega)]
      exact hpt j (by omega)
  · have hj : j < c.L.length + 1 := by rw [← hl]; exact hj
    rcases Nat.lt_trichotomy j (k + 1) with e | rfl | e
    · rw [n1 j (by omega), p1 j (by omega)]
      exact hst j (by omega)
    · rw [n2, p2]
      exact hnew.stg
    · obtain ⟨j, rfl⟩ : ∃ i, j = i + 1 := ⟨j - 1, by omega⟩
      rw [n3 j (by omega), p3 j (by omega)]
      exact hst j (by omega)
  · have hi : i < c.L.length + 1 := by rw [← hl]; exact hi
    have hj : j < c.L.length + 1 := by rw [← hl]; exact hj
    -- each is the new one, or an old one
    have key : ∀ i, i < c.L.length + 1 → (i = k + 1 ∧ nd (insQ q k ⟨pp, gg, U, 0⟩) i = ⟨pp, gg, U, 0⟩) ∨ (∃ x, x < c.L.length ∧ (x ≤ k → i = x) ∧ (k + 1 ≤ x → i = x + 1) ∧ nd (insQ q k ⟨pp, gg, U, 0⟩) i = nd q x) := fun i hi => by
      rcases Nat.lt_trichotomy i (k + 1) with e | rfl | e
      · exact Or.inr ⟨i, by omega, fun _ => rfl, fun h => by omega, n1 i (by omega)⟩
      · exact Or.inl ⟨rfl, n2⟩
      · obtain ⟨x, rfl⟩ : ∃ x, i = x + 1 := ⟨i - 1, by omega⟩
        exact Or.inr ⟨x, by omega, fun h => by omega, fun _ => rfl, n3 x (by omega)⟩
    rcases key i hi with ⟨e1, e2⟩ | ⟨x, hx, x1, x2, e2⟩ <;> rcases key j hj with ⟨f1, f2⟩ | ⟨y, hy, y1, y2, f2⟩
    · omega
    · rw [e2, f2]
      exact ⟨fun e => hd pp (Or.inl rfl) (by have e : pp = (nd q y).p := e; rw [e]; exact own_p (by omega)), fun i hi hi' => hd i (Or.inr hi) (own_U (by omega) hi')⟩
    · rw [e2, f2]
      exact ⟨fun e => hd pp (Or.inl rfl) (by have e : (nd q x).p = pp := e; rw [← e]; exact own_p (by omega)), fun i hi hi' => hd i (Or.inr hi') (own_U (by omega) hi)⟩
    · rw [e2, f2]
      exact h.apart x y hx hy (by omega)
  · have hj : j < c.L.length + 1 := by rw [← hl]; exact hj
    show (nd (insQ q k _) j).m + sumA (Ch.insL c.L k _) j ≤ M
    rcases Nat.lt_trichotomy j (k + 1) with e | rfl | e
    · rw [n1 j (by omega), s1 j (by omega)]
      exact h.sum j (by omega)
    · rw [n2, s1 (k + 1) (Nat.le_refl _)]
      have := h.sum (k + 1) (by omega)
      show 0 + _ ≤ M
      omega
    · obtain ⟨j, rfl⟩ : ∃ i, j = i + 1 := ⟨j - 1, by omega⟩
      rw [n3 j (by omega), s2 j (by omega)]
      have := h.sum j (by omega)
      show (nd q j).m + (sumA c.L j + s.S.size) ≤ M
      omega
  · show 0 ≤ c.lost ∧ c.lost + (sumA (Ch.insL c.L k ⟨s, bb⟩) (Ch.insL c.L k ⟨s, bb⟩).length : Nat) ≤ M
    rw [hl, s2 c.L.length (by omega)]
    have := h.los
    show 0 ≤ c.lost ∧ c.lost + ((sumA c.L c.L.length + s.S.size : Nat) : Int) ≤ M
    omega
  · exact h.past hg _ hi (fun e => hu (Or.inl (Or.inr (Or.inl ⟨_, rfl, e.symm⟩)))) (fun e => hu (Or.inl (Or.inl e)))
  · rcases hi with e | ⟨a', ha', e⟩ | ⟨x, hx, e⟩
    · exact Or.inl (Or.inl (Or.inl e))
    · cases ha'
      rcases ha with h1 | h1
      · exact Or.inl (Or.inl (Or.inr (Or.inl ⟨_, rfl, h1.symm.trans e⟩)))
      · exact Or.inr (by rw [← e]; exact h1)
    · unfold insQ at hx
      rcases List.mem_append.1 hx with hx | hx
      · exact Or.inl (Or.inl (Or.inr (Or.inr ⟨x, List.mem_of_mem_take hx, e⟩)))
      · rcases List.mem_cons.1 hx with rfl | hx
        · exact Or.inl (Or.inr e)
        · exact Or.inl (Or.inl (Or.inr (Or.inr ⟨x, List.mem_of_mem_drop hx, e⟩)))
theorem CAt.del {k : Nat} {a : Addr} {cap' : Nat} (h : CAt w g (some ⟨b, o, none⟩) cap q c M) (hk : k + 3 ≤ c.L.length)
    (hr : gc.ORow w' 0 PT 1 (some a) (c.L.length - 1) cap' ((q.map fun x => ptr x.p).take (k + 1) ++ (q.map fun x => ptr x.p).drop (k + 2))) (hg : w.grownBy w' (some b)) (ha : a.block = b ∨ w.heap.size ≤ a.block) :
    CAt (w'.setCell ⟨g, 0, none⟩ (.slice (some a) (c.L.length - 1) cap')) g (some a) cap' (outQ q k) (c.rem1 k) M ∧ Mvd w (blkC g (some ⟨b, o, none⟩) q) (w'.setCell ⟨g, 0, none⟩ (.slice (some a) (c.L.length - 1) cap')) (blkC g (some a) (outQ q k)) := by
  have hq := h.len
  obtain ⟨n1, n2, n3⟩ := nd_out q k (by omega)
  obtain ⟨s1, s2⟩ := sumA_out c.L k (by omega)
  have hl : (Ch.outL c.L k).length = c.L.length - 1 := by have := Ch.len_outL c.L k (by omega); omega
  have p1 : ∀ j, j ≤ k → (c.rem1 k).at' j = c.at' j := fun j hj => Ch.out_lt _ _ _ (by omega) hj
  have p2 : ∀ j, k + 1 ≤ j → (c.rem1 k).at' j = c.at' (j + 1) := fun j hj => Ch.out_ge _ _ _ (by omega) hj
  have hgb : g ≠ b := fun e => h.r_ne_g rfl e.symm
  have hgl := gb.blk_lt h.blk
  have hg1 : w'.heap[g]? = w.heap[g]? := hg.block g hgl (fun e => by cases e; exact hgb rfl)
  have hst : ∀ j, j < c.L.length → Rep (w'.setCell ⟨g, 0, none⟩ (.slice (some a) (c.L.length - 1) cap')) (nd q j).U (nd q j).g (c.at' j).s (nd q j).m := fun j hj => rep_on2 (h.stg j hj) fun i hi => h.past hg _ ((rep_lt (h.stg j hj)).2 i hi) (fun e => h.not_r hj rfl (by rw [← e]; exact hi)) (fun e => h.not_g hj (by rw [← e]; exact hi))
  have hpt : ∀ j, j < c.L.length → (w'.setCell ⟨g, 0, none⟩ (.slice (some a) (c.L.length - 1) cap')).heap[(nd q j).p]? = some (.cells (prtC (nd q j).g (c.at' j).closed) 59 (0, 0)) := fun j hj => (h.past hg _ (gb.blk_lt (h.prt j hj)) (fun e => h.r_ne_p hj rfl e.symm) (h.p_ne_g hj)).trans (h.prt j hj)
  have key : ∀ i, i < c.L.length - 1 → ∃ x, x < c.L.length ∧ (x ≤ k → i = x) ∧ (k + 1 ≤ x → i + 1 = x) ∧ nd (outQ q k) i = nd q x ∧ (c.rem1 k).at' i = c.at' x := fun i hi => by
    rcases Nat.lt_or_ge k i with e | e
    · exact ⟨i + 1, by omega, fun h => by omega, fun _ => rfl, n2 i (by omega), p2 i (by omega)⟩
    · exact ⟨i, by omega, fun _ => rfl, fun h => by omega, n1 i e, p1 i e⟩
  refine ⟨⟨?_, ?_, ?_, ?_, fun j hj => ?_, fun j hj => ?_, fun i j hi hj hne => ?_, fun j hj => ?_, ?_, h.top⟩, ⟨⟨⟨hg.os, hg.tape, hg.output, by simpa [World.setCell] using hg.size, fun i hi => absurd hi (Nat.not_lt_zero i)⟩, fun i hi hu => ?_⟩, fun i hi => ?_⟩⟩
  · show (outQ q k).length = (Ch.outL c.L k).length
    rw [hl]
    omega
  · show (Ch.outL c.L k).length ≤ 10
    rw [hl]
    have := h.ten
    omega
  · show _ = some (Obj.cells (chC (some a) (Ch.outL c.L k).length cap' _) _ _)
    rw [hl]
    have := hg1.trans h.blk
    rw [gb.set_heap this]
    rfl
  · show gc.ORow _ 0 _ 1 (some a) (Ch.outL c.L k).length cap' _
    rw [hl]
    have e : (outQ q k).map (fun x => ptr x.p) = (q.map fun x => ptr x.p).take (k + 1) ++ (q.map fun x => ptr x.p).drop (k + 2) := by
      unfold outQ
      rw [List.map_append, List.map_take, List.map_drop]
    rw [e]
    exact hr.set (hg1.trans h.blk) (by decide) 0 _
  · have hj : j < c.L.length - 1 := by rw [← hl]; exact hj
    obtain ⟨x, hx, _, _, e1, e2⟩ := key j hj
    rw [e1, e2]
    exact hpt x hx
  · have hj : j < c.L.length - 1 := by rw [← hl]; exact hj
    obtain ⟨x, hx, _, _, e1, e2⟩ := key j hj
    rw [e1, e2]
    exact hst x hx
  · have hi : i < c.L.length - 1 := by rw [← hl]; exact hi
    have hj : j < c.L.length - 1 := by rw [← hl]; exact hj
    obtain ⟨x, hx, x1, x2, e1, _⟩ := key i hi
    obtain ⟨y, hy, y1, y2, f1, _⟩ := key j hj
    rw [e1, f1]
    exact h.apart x y hx hy (by omega)
  · have hj : j < c.L.length - 1 := by rw [← hl]; exact hj
    show (nd (outQ q k) j).m + sumA (Ch.outL c.L k) j ≤ M
    rcases Nat.lt_or_ge k j with e | e
    · rw [n2 j (by omega)]
      have h1 := s2 j (by omega)
      have h2 := h.sum (j + 1) (by omega)
      omega
    · rw [n1 j e, s1 j (by omega)]
      exact h.sum j (by omega)
  · show 0 ≤ c.lost ∧ c.lost + (sumA (Ch.outL c.L k) (Ch.outL c.L k).length : Nat) ≤ M
    rw [hl]
    have h1 := s2 (c.L.length - 1) (by omega)
    rw [show c.L.length - 1 + 1 = c.L.length by omega] at h1
    have := h.los
    omega
  · exact h.past hg _ hi (fun e => hu (Or.inr (Or.inl ⟨_, rfl, e.symm⟩))) (fun e => hu (Or.inl e))
  · rcases hi with e | ⟨a', ha', e⟩ | ⟨x, hx, e⟩
    · exact Or.inl (Or.inl e)
    · cases ha'
      rcases ha with h1 | h1
      · exact Or.inl (Or.inr (Or.inl ⟨_, rfl, h1.symm.trans e⟩))
      · exact Or.inr (by rw [← e]; exact h1)
    · unfold outQ at hx
      rcases List.mem_append.1 hx with hx | hx
      · exact Or.inl (Or.inr (Or.inr ⟨x, List.mem_of_mem_take hx, e⟩))
      · exact Or.inl (Or.inr (Or.inr ⟨x, List.mem_of_mem_drop hx, e⟩))
end
end Go.Proofs.Ytfdfgnmgpgkknaa

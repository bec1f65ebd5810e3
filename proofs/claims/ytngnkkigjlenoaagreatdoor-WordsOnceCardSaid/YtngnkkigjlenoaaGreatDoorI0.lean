/-
  Structs in blocks of their own; bytes of a text; one text more of a row. Conditions: as each states.
-/
import Derived.Test.YtngnkkigjlenoaaGreatDoorD
import Derived.Deep.MidRow
namespace Go.Proofs.YtngnkkigjlenoaaGreatDoor
open Go.RowKit

/-- A struct of so many cells in a block of its own. -/
def IsB (T K : Nat) (w : World) (q : Nat) : Prop := ∃ cs : Array Value, w.heap[q]? = some (.cells cs T (0, 0)) ∧ cs.size = K
def BAt (T : Nat) (w : World) (q : Nat) (cs : Array Value) : Prop := w.heap[q]? = some (.cells cs T (0, 0))
def OkC (K : Nat) (cs : Array Value) : Prop := cs.size = K ∧ cs.all (·.oneCell') = true
section
variable {T K T' K' q g : Nat} {w w' : World} {cs : Array Value}
theorem BAt.lt (h : BAt T w q cs) : q < w.heap.size := (Array.getElem?_eq_some_iff.1 h).1
theorem IsB.lt (h : IsB T K w q) : q < w.heap.size := by
  obtain ⟨cs, h, _⟩ := h
  exact (Array.getElem?_eq_some_iff.1 h).1
theorem BAt.is (h : BAt T w q cs) (hk : cs.size = K) : IsB T K w q := ⟨cs, h, hk⟩
theorem BAt.cell (h : BAt T w q cs) (i : Nat) : w.cell? ⟨q, i, none⟩ = cs[i]? := by
  unfold BAt at h
  simp [World.cell?, h]
theorem BAt.frz (h : BAt T w q cs) (i : Nat) : w.frozen? ⟨q, i, none⟩ = false := by
  unfold BAt at h
  simp [World.frozen?, h]
theorem BAt.on (h : BAt T w q cs) (hb : Below w.heap.size w w') : BAt T w' q cs := (hb.block _ h.lt).trans h
theorem BAt.alloc (h : BAt T w q cs) (o : Obj) : BAt T (w.alloc o) q cs := h.on ((Below.refl _ _).alloc (Nat.le_refl _) _)
theorem BAt.other (h : BAt T w q cs) (hg : q ≠ g) (ds : Array Value) : BAt T (w.setRow g ds) q cs := (setRow_other w g q ds hg).trans h
theorem BAt.far (h : BAt T w q cs) (hg : q ≠ g) (i : Nat) (v : Value) : BAt T (w.setCell ⟨g, i, none⟩ v) q cs := (Below.heap_setCell w ⟨g, i, none⟩ v q hg).trans h
theorem BAt.set (h : BAt T w q cs) (i : Nat) (v : Value) : BAt T (w.setCell ⟨q, i, none⟩ v) q (cs.setIfInBounds i v) := by
  unfold BAt at h ⊢
  simp [World.setCell, Array.getElem?_modify, h]
theorem BAt.not (h : BAt T w q cs) {ds : Array Value} {fr : Nat × Nat} (hg : w.heap[g]? = some (.cells ds T' fr)) (ht : T' ≠ T) : g ≠ q := fun e => by
  unfold BAt at h
  rw [e, h] at hg
  injection hg with hg
  injection hg with _ hg
  exact ht hg.symm
theorem bat_new (w : World) (cs : Array Value) : BAt T (w.alloc (.cells cs T)) w.heap.size cs := heap_alloc_new w _
theorem IsB.on (h : IsB T K w q) (hb : Below w.heap.size w w') : IsB T K w' q := by
  obtain ⟨cs, h, hk⟩ := h
  exact ⟨cs, BAt.on h hb, hk⟩
theorem IsB.alloc (h : IsB T K w q) (o : Obj) : IsB T K (w.alloc o) q := h.on ((Below.refl _ _).alloc (Nat.le_refl _) _)
theorem IsB.row (h : IsB T K w q) (ds : Array Value) : BAt T (w.setRow q ds) q ds := by
  obtain ⟨cs, h, _⟩ := h
  exact setRow_heap w q _ _ _ _ h
theorem IsB.other (h : IsB T K w q) (hg : q ≠ g) (ds : Array Value) : IsB T K (w.setRow g ds) q := by
  obtain ⟨cs, h, hk⟩ := h
  exact ⟨cs, BAt.other h hg ds, hk⟩
theorem IsB.ne (h : IsB T K w q) (k : IsB T' K' w g) (ht : T ≠ T') : q ≠ g := fun e => by
  obtain ⟨cs, h, _⟩ := h
  obtain ⟨ds, k, _⟩ := k
  rw [e, k] at h
  injection h with h
  injection h with _ h
  exact ht h.symm
theorem IsB.far (h : IsB T K w q) (hg : q ≠ g) (i : Nat) (v : Value) : IsB T K (w.setCell ⟨g, i, none⟩ v) q := by
  obtain ⟨cs, h, hk⟩ := h
  exact ⟨cs, BAt.far h hg i v, hk⟩
theorem IsB.apart (h : IsB T K w q) (k : IsB T' K' w g) (ht : T ≠ T') (ds : Array Value) : IsB T K (w.setRow g ds) q := h.other (h.ne k ht) ds
end
section
variable {T K q : Nat} {w : World} {cs : Array Value}
theorem run_storeB (hi : (Tryz.prog.info? T).map (·.size) = some K) (h : IsB T K w q) (hv : OkC K cs) : (Instr.storeAt T (.pointer (some ⟨q, 0, none⟩)) (.agg cs)).run Tryz.prog w = .ok () (w.setRow q cs) := by
  obtain ⟨ds, h, hk⟩ := h
  simp only [Instr.storeAt, Instr.sureAddr, Sem.run_bind, Sem.run_pure, Result.andThen_ok, run_storeVar_row (P := Tryz.prog) w q _ T _ cs h (by rw [hi, hv.1]) (by rw [hk, hv.1]) hv.2]
end
/-- '[]byte(s)'. -/
theorem conv_text (s : ByteArray) (hs : s.size ≤ 140737488355328) (w : World) : ∃ c w', (convert 9 40 (.string s)).run Tryz.prog w = .ok (.slice (some ⟨w.heap.size, 0, none⟩) s.size c) w' ∧
    Lib.BytesIn w' (some ⟨w.heap.size, 0, none⟩) s.size (nums s) ∧ Below w.heap.size w w' ∧ s.size ≤ c ∧ c ≤ 9223372036854775807 ∧ w.heap.size < w'.heap.size ∧ ∃ cs fr, w'.heap[w.heap.size]? = some (.cells cs 5 fr) ∧ ∀ i, i < s.size → w'.frozen? ⟨w.heap.size, i, none⟩ = false := by
  have hge := grownCap_ge w s.size 0 5
  have hle := grownCap_le_maxLen w s.size 0 5 (by unfold maxLen; omega)
  have hsz : (bytesRow s (grownCap w s.size 0 5)).size = grownCap w s.size 0 5 := by
    simp [bytesRow]
    omega
  obtain ⟨C, hC⟩ : ∃ C, bytesRow s (grownCap w s.size 0 5) = C := ⟨_, rfl⟩
  have hrun := run_bytes_of_string (P := Tryz.prog) w 9 40 5 s Tryz.underlying9 Tryz.underlying40 Tryz.underlying5
  rw [hC] at hrun hsz
  have hblk : (w.drew.alloc (.cells C 5 (C.size, C.size + 1))).heap[w.heap.size]? = some (.cells C 5 (C.size, C.size + 1)) := heap_alloc_new w.drew _
  refine ⟨_, _, hrun, fun _ => ⟨_, _, rfl, fun i hi => ?_⟩, (Below.refl _ _).drew.alloc (Nat.le_refl _) _, hge, hle, by simp, _, _, hblk, fun i hi => ?_⟩
  · rw [cell_of_row _ _ _ _ _ _ hblk, ← hC]
    simp only [bytesRow, Nat.zero_add]
    rw [Array.getElem?_append_left (by simpa using hi)]
    simp [nums, List.getD, hi]
  · simp only [World.frozen?]
    rw [hblk]
    simp [hsz]
    omega

/-- One text more, and what stays. -/
theorem app_txt {w w0 : World} {base m : Nat} {v : Value} {ps : List ByteArray} (hown : w.ownsRow base 9 1 v m (ps.map Value.string)) (hbase : base ≤ w.heap.size) (hb : Below base w0 w) (hbig : m + 1 ≤ 2000000) (s : ByteArray) :
    ∃ q d w', (∀ ty, (Builtin.append_ #[22, 22] ty #[v, .slice (some ⟨w.heap.size, 0, none⟩) 1 1]).run Tryz.prog (w.alloc (.cells #[.string s] 9)) = .ok (.slice q (m + 1) d) w') ∧ Strs w' base q (m + 1) d (ps ++ [s]) ∧ Below base w0 w' ∧ (∀ g, g < w.heap.size → v.ownBlock ≠ some g → w'.heap[g]? = w.heap[g]?) ∧ w.heap.size ≤ w'.heap.size := by
  obtain ⟨i0, hi0, hz0, hz1, hz2⟩ := info_parts infoS
  have ho := hown.alloc (.cells #[.string s] 9)
  have hnew := heap_alloc_new w (.cells #[.string s] 9)
  have hba : Below w.heap.size w (w.alloc (.cells #[.string s] 9)) := (Below.refl _ _).alloc (Nat.le_refl _) _
  obtain ⟨v', w', h1, h2, h3, _⟩ := run_append_own _ base 22 22 9 i0 (.string ⟨#[]⟩) 1 16 Tryz.underlying22 hi0 hz0 hz1 hz2 rfl (by decide) v m _ ho ⟨w.heap.size, 0, none⟩ 1 1 ([s].map Value.string) rfl (by
    intro j u hj
    have hj1 : j < 1 := by have := (List.getElem?_eq_some_iff.mp hj).1; simpa using this
    obtain rfl : j = 0 := by omega
    rw [WideShapes.add_plain, ← hj]
    exact cell_of_row _ _ 0 _ _ _ hnew) (by simp [Value.oneCell']) (by unfold maxLen; omega) (by omega) (by simp; omega)
  rw [← List.map_append] at h2
  obtain ⟨q, d, rfl, h4, _⟩ := own_strs h2
  have hsz := h3.size
  simp at hsz
  exact ⟨q, d, w', fun ty => by rw [← h1]; rfl, h4, (hb.alloc hbase _).grown h3 (by simp; omega) (fun j hj => (hown.lt j hj).1), fun g hg hne => (h3.block g (by simp; omega) (by first | exact hne | exact hne.symm)).trans (hba.block g hg), by omega⟩
end Go.Proofs.YtngnkkigjlenoaaGreatDoor

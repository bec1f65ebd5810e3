/-
  What a replacer of single bytes writes: mathematics and memory. Conditions: as each states.
-/
import Derived.Test.YtngnkkigjlenoaaGreatDoorK
import Derived.Test.YtngnkkigjlenoaaGreatDoorG
import Derived.Laws.CopyRow
import Derived.Test.YtngnkkigjlenoaaGreatDoorShelf
namespace Go.Proofs.YtngnkkigjlenoaaGreatDoor
open Go.RowKit

theorem knd4 (c : Int) : (knd c = 4 ∨ knd c = 5) ↔ (c = 34 ∨ c = 92) := by unfold knd; (repeat' split) <;> omega
theorem esc_one {c : Int} (h : c = 34 ∨ c = 92) (r : List Int) : escL (c :: r) = 92 :: c :: escL r := by
  conv => lhs; unfold escL
  rw [if_pos ((knd4 c).2 h)]
theorem esc_no {c : Int} (h : ¬ (c = 34 ∨ c = 92)) (r : List Int) : escL (c :: r) = c :: escL r := by
  conv => lhs; unfold escL
  rw [if_neg fun hk => h ((knd4 c).1 hk)]
theorem esc_app (xs ys : List Int) : escL (xs ++ ys) = escL xs ++ escL ys := by
  induction xs with
  | nil => rfl
  | cons c r ih =>
    by_cases h : c = 34 ∨ c = 92
    · rw [List.cons_append, esc_one h, esc_one h, ih]; rfl
    · rw [List.cons_append, esc_no h, esc_no h, ih]; rfl
theorem esc_len (xs : List Int) : xs.length ≤ (escL xs).length ∧ (escL xs).length ≤ 2 * xs.length := by
  induction xs with
  | nil => exact ⟨Nat.le_refl _, Nat.le_refl _⟩
  | cons c r ih =>
    by_cases h : c = 34 ∨ c = 92
    · rw [esc_one h]; simp; omega
    · rw [esc_no h]; simp; omega
theorem esc_same (xs : List Int) (h : (escL xs).length = xs.length) : escL xs = xs := by
  induction xs with
  | nil => rfl
  | cons c r ih =>
    have hl := esc_len r
    by_cases hc : c = 34 ∨ c = 92
    · rw [esc_one hc] at h; simp at h; omega
    · rw [esc_no hc] at h ⊢
      rw [ih (by simpa using h)]
theorem esc_take {xs : List Int} {k : Nat} (hk : k < xs.length) : escL (xs.take (k + 1)) = escL (xs.take k) ++ (if xs.getD k 0 = 34 ∨ xs.getD k 0 = 92 then [92, xs.getD k 0] else [xs.getD k 0]) := by
  rw [List.take_succ_eq_append_getElem hk, esc_app, List.getD_eq_getElem?_getD, List.getElem?_eq_getElem hk]
  congr 1
  show escL [xs[k]] = if xs[k] = 34 ∨ xs[k] = 92 then [92, xs[k]] else [xs[k]]
  by_cases h : xs[k] = 34 ∨ xs[k] = 92
  · rw [esc_one h, if_pos h]; rfl
  · rw [esc_no h, if_neg h]; rfl
theorem esc_all {xs : List Int} (h : AllB xs) : AllB (escL xs) := by
  induction xs with
  | nil => exact allB_nil
  | cons c r ih =>
    have ih := ih fun x hx => h x (List.mem_cons_of_mem _ hx)
    have hc := h c List.mem_cons_self
    by_cases h2 : c = 34 ∨ c = 92
    · rw [esc_one h2]
      intro x hx
      rcases List.mem_cons.1 hx with rfl | hx
      · decide
      rcases List.mem_cons.1 hx with rfl | hx
      · exact hc
      · exact ih x hx
    · rw [esc_no h2]
      intro x hx
      rcases List.mem_cons.1 hx with rfl | hx
      · exact hc
      · exact ih x hx
theorem g0_val (c : Int) (i : Nat) (h : (i : Int) = c) : g0 i = if c = 34 ∨ c = 92 then [92, c] else [] := by
  unfold g0 g1
  by_cases h1 : i = 34
  · subst h1
    rw [if_pos rfl, if_pos (Or.inl (by omega)), ← h]
    rfl
  · rw [if_neg h1]
    by_cases h2 : i = 92
    · subst h2
      rw [if_pos rfl, if_pos (Or.inr (by omega)), ← h]
      rfl
    · rw [if_neg h2, if_neg (by omega)]
theorem esc_count (l : List UInt8) : (escL (l.map fun u => (u.toNat : Int))).length = l.length + Lib.countByte l 92 + Lib.countByte l 34 := by
  unfold Lib.countByte
  induction l with
  | nil => rfl
  | cons u l ih =>
    rw [List.map_cons, List.count_cons, List.count_cons, List.length_cons]
    have hu : ∀ k : UInt8, (u.toNat : Int) = (k.toNat : Int) ↔ u = k := fun k => ⟨fun h => UInt8.toNat_inj.1 (by omega), fun h => by rw [h]⟩
    have h34 := hu 34
    have h92 := hu 92
    simp only [show ((34 : UInt8).toNat : Int) = 34 from rfl, show ((92 : UInt8).toNat : Int) = 92 from rfl] at h34 h92
    by_cases e1 : u = 34
    · rw [esc_one (Or.inl (h34.2 e1))]
      subst e1
      simp [ih]
      omega
    · by_cases e2 : u = 92
      · rw [esc_one (Or.inr (h92.2 e2))]
        subst e2
        simp [ih]
        omega
      · rw [esc_no (by rw [h34, h92]; rintro (h | h); exact e1 h; exact e2 h)]
        simp [ih, e1, e2]
        omega
/-- What a walk reads of a replacer. -/
theorem RC.sign {H : Nat} {w : World} {ts : List ByteArray} (h : RC H w ts g0) (c : Int) (i : Nat) (hc : (i : Int) = c) (hi : i < 256) :
    (¬ (c = 34 ∨ c = 92) ∧ w.cell? ⟨H, i, none⟩ = some (.slice none 0 0)) ∨ ((c = 34 ∨ c = 92) ∧ ∃ p d, w.cell? ⟨H, i, none⟩ = some (.slice (some ⟨p, 0, none⟩) 2 d) ∧ w.cell? ⟨p, 0, none⟩ = some (.int .u8 92) ∧ w.cell? ⟨p, 1, none⟩ = some (.int .u8 c)) := by
  obtain ⟨b, d, cs, cur, fr, h1, h2, h3, h4, h5, h6⟩ := h
  obtain ⟨v, e, hv⟩ := h3 i hi
  rw [g0_val c i hc] at hv
  have hcell := (h1.cell i).trans e
  by_cases hs : c = 34 ∨ c = 92
  · rw [if_pos hs] at hv
    unfold SG at hv
    rw [if_neg (by simp)] at hv
    obtain ⟨p, c', cs', fr', rfl, _, _, hp, hx⟩ := hv
    refine Or.inr ⟨hs, p, c', hcell, ?_, ?_⟩
    · have := hx 0 (by simp)
      simpa [World.cell?, hp] using this
    · have := hx 1 (by simp)
      simpa [World.cell?, hp] using this
  · rw [if_neg hs] at hv
    unfold SG at hv
    rw [if_pos rfl] at hv
    subst hv
    exact Or.inl ⟨hs, hcell⟩
theorem RC.row {H : Nat} {w : World} (h : RC H w (tJ 0) g0) : ∃ b d, w.cell? ⟨H, 256, none⟩ = some (.slice (some ⟨b, 0, none⟩) 2 d) ∧ w.cell? ⟨b, 0, none⟩ = some (.string b92) ∧ w.cell? ⟨b, 1, none⟩ = some (.string b34) := by
  obtain ⟨b, d, cs, cur, fr, h1, h2, h3, h4, h5, h6⟩ := h
  refine ⟨b, d, (h1.cell 256).trans h4, ?_, ?_⟩
  · have := h6 0 (by decide)
    simpa [World.cell?, h5, tJ] using this
  · have := h6 1 (by decide)
    simpa [World.cell?, h5, tJ] using this
/-- A row of noughts, the first of which were written. -/
def ZR (w : World) (b N : Nat) (E : List Int) : Prop := w.heap[b]? = some (.cells ((E ++ List.replicate (N - E.length) 0).map (Value.int .u8)).toArray 5 (0, 0)) ∧ E.length ≤ N
theorem ZR.cell {w : World} {b N : Nat} {E : List Int} (h : ZR w b N E) {j : Nat} (hj : j < N) : ∃ x, w.cell? ⟨b, j, none⟩ = some (.int .u8 x) := by
  obtain ⟨h1, h2⟩ := h
  have hl : j < (E ++ List.replicate (N - E.length) (0 : Int)).length := by simp; omega
  refine ⟨(E ++ List.replicate (N - E.length) (0 : Int))[j], ?_⟩
  simp only [World.cell?, h1]
  rw [List.getElem?_toArray, List.getElem?_map, List.getElem?_eq_getElem hl]
  rfl
theorem ZR.put {w : World} {b N : Nat} {E : List Int} (h : ZR w b N E) (hl : E.length < N) (x : Int) : ZR (w.setCell ⟨b, E.length, none⟩ (.int .u8 x)) b N (E ++ [x]) := by
  obtain ⟨h1, h2⟩ := h
  refine ⟨?_, by rw [List.length_append, List.length_singleton]; omega⟩
  rw [heap_setCell_same w b E.length _ _ _ h1]
  congr 2
  rw [List.setIfInBounds_toArray]
  congr 1
  rw [← List.map_set]
  congr 1
  rw [List.set_append_right _ _ (Nat.le_refl _), Nat.sub_self, List.append_assoc]
  congr 1
  obtain ⟨m, hm⟩ : ∃ m, N - E.length = m + 1 := ⟨N - E.length - 1, by omega⟩
  rw [hm, List.replicate_succ, List.set_cons_zero, List.length_append, List.length_singleton]
  simp
  omega
theorem ZR.copy {w : World} {b N d p d' : Nat} {E : List Int} (h : ZR w b N E) (hl : E.length + 2 ≤ N) {x y : Int} (hp0 : w.cell? ⟨p, 0, none⟩ = some (.int .u8 x)) (hp1 : w.cell? ⟨p, 1, none⟩ = some (.int .u8 y)) :
    ∃ w', (∀ ty, (Builtin.copy_ #[40, 40] ty #[.slice (some ⟨b, E.length, none⟩) (N - E.length) d, .slice (some ⟨p, 0, none⟩) 2 d']).run Tryz.prog w = .ok (.int .i64 2) w') ∧ ZR w' b N (E ++ [x, y]) ∧ ∀ B w0, Below B w0 w → B ≤ b → Below B w0 w' := by
  obtain ⟨h1, h2⟩ := h
  have hrun := fun ty => run_copy_row (P := Tryz.prog) w 40 40 ty 5 b E.length (N - E.length) d ⟨p, 0, none⟩ 2 d' _ 5 [.int .u8 x, .int .u8 y] Tryz.underlying40 (by kernel_rfl) h1 (by show 2 = min 2 (N - E.length); omega) (fun j v hj => by
    rw [WideShapes.add_plain]
    have hj2 : j < 2 := by have := (List.getElem?_eq_some_iff.1 hj).1; simpa using this
    have : j = 0 ∨ j = 1 := by omega
    rcases this with rfl | rfl
    · simp at hj; subst hj; exact hp0
    · simp at hj; subst hj; exact hp1) (by simp; omega) (fun v hv => by simp at hv; rcases hv with rfl | rfl <;> rfl)
  refine ⟨_, fun ty => hrun ty, ⟨?_, by simp; omega⟩, fun B w0 hB hb => below_setRow hB hb _⟩
  rw [setRow_heap w b _ _ _ _ h1]
  congr 2
  rw [List.toList_toArray]
  obtain ⟨m, hm⟩ : ∃ m, N - E.length = m + 2 := ⟨N - E.length - 2, by omega⟩
  have e1 : List.take E.length ((E ++ List.replicate (N - E.length) (0 : Int)).map (Value.int .u8)) = E.map (Value.int .u8) := by
    rw [List.map_append, List.take_append_of_le_length (by simp), List.take_of_length_le (by simp)]
  have e2 : List.drop (E.length + 2) ((E ++ List.replicate (N - E.length) (0 : Int)).map (Value.int .u8)) = (List.replicate m (0 : Int)).map (Value.int .u8) := by
    rw [hm, List.map_append, List.drop_append]
    simp
  have e3 : N - (E ++ [x, y]).length = m := by simp; omega
  rw [e3]
  congr 1
  simp only [List.length_cons, List.length_nil, Nat.zero_add, Nat.reduceAdd] at e2 ⊢
  rw [e1, e2]
  simp
theorem ZR.made (w : World) (N : Nat) (h : N ≤ 1000) : ∃ w', (Instr.makeSlice 40 (.int .i64 (N : Int)) (.int .i64 (N : Int))).run Tryz.prog w = .ok (.slice (some ⟨w.heap.size, 0, none⟩) N N) w' ∧ ZR w' w.heap.size N [] ∧ Below w.heap.size w w' := by
  obtain ⟨i0, hi0, hz0, hz1, hz2⟩ := info_parts info5
  have hr := run_makeSlice (P := Tryz.prog) (w := w) 40 5 i0 (.int .u8 0) Tryz.underlying40 hi0 hz0 .i64 .i64 (N : Int) (N : Int) (by omega) (by omega) (by rw [hz1]; omega) (by rw [hz2]; omega) (by omega)
  refine ⟨_, hr, ⟨?_, Nat.zero_le _⟩, (Below.refl _ _).alloc (Nat.le_refl _) _⟩
  have key : madeCells (Value.int .u8 0).cells ((N : Int).toNat * i0.size) = (([] ++ List.replicate (N - ([] : List Int).length) (0 : Int)).map (Value.int .u8)).toArray := by
    rw [hz1]
    apply Array.ext'
    apply List.ext_getElem?
    intro j
    by_cases hj : j < N
    · simp [madeCells, Value.cells, hj, Nat.mod_one]
    · simp [madeCells, Value.cells, hj]
  rw [heap_alloc_new w, key]
theorem ZR.bytes {w : World} {b N : Nat} {E : List Int} (h : ZR w b N E) (hN : E.length = N) : Lib.BytesIn w (some ⟨b, 0, none⟩) N E := fun _ => ⟨b, 0, rfl, fun i hi => by
  obtain ⟨h1, h2⟩ := h
  rw [hN, Nat.sub_self, List.replicate_zero, List.append_nil] at h1
  simp only [World.cell?, h1, Nat.zero_add]
  rw [List.getElem?_toArray, List.getElem?_map, List.getD_eq_getElem?_getD, List.getElem?_eq_getElem (by omega)]
  rfl⟩
end Go.Proofs.YtngnkkigjlenoaaGreatDoor

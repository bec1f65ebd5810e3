/-
  Contract: what the document's own Do answers. Conditions: as each states.
-/
import Derived.Test.YtkjljnfhnkaocaaW8
import Derived.Deep.RegionHeld
namespace Go.Proofs.Ytkjljnfhnkaocaa
open Go.RowKit

/-- What Do hands back: the ring, a number, a text. -/
def Did (room : Int) (S : ByteArray) (n : Nat) (t : ByteArray) (w : World) (e : Ending) (w' : World) : Prop := e = .returned (.tuple #[.agg #[.string S, .int .i64 room], .int .i64 n, .string t]) ∧ Below w.heap.size w w'
theorem below3 (w : World) (o o' o'' : Obj) : Below w.heap.size w (((w.alloc o).alloc o').alloc o'') := (((Below.refl _ _).alloc (Nat.le_refl _) _).alloc (by simp) _).alloc (by simp; omega) _
theorem three_blocks {w w1 : World} {o0 o1 o2 : Obj} (hb : Below (((w.alloc o0).alloc o1).alloc o2).heap.size (((w.alloc o0).alloc o1).alloc o2) w1) :
    w1.heap[w.heap.size]? = some o0 ∧ w1.heap[w.heap.size + 1]? = some o1 ∧ w1.heap[w.heap.size + 1 + 1]? = some o2 ∧ w.heap.size + 1 + 1 < w1.heap.size := by
  have hs := hb.size
  have s0 : (w.alloc o0).heap.size = w.heap.size + 1 := by simp
  have s1 : ((w.alloc o0).alloc o1).heap.size = w.heap.size + 1 + 1 := by simp
  have s2 : (((w.alloc o0).alloc o1).alloc o2).heap.size = w.heap.size + 1 + 1 + 1 := by simp
  rw [s2] at hs hb
  refine ⟨?_, ?_, ?_, by omega⟩
  · rw [hb.block _ (by omega), Below.heap_alloc _ _ _ (by omega), Below.heap_alloc _ _ _ (by omega)]
    exact heap_alloc_new w o0
  · rw [hb.block _ (by omega), Below.heap_alloc _ _ _ (by omega)]
    have := heap_alloc_new (w.alloc o0) o1
    rw [s0] at this
    exact this
  · rw [hb.block _ (by omega)]
    have := heap_alloc_new ((w.alloc o0).alloc o1) o2
    rw [s1] at this
    exact this
theorem frozen_at {w : World} {g i : Nat} {cs : Array Value} {t : TypeId} (h : w.heap[g]? = some (.cells cs t (0, 0))) : w.frozen? ⟨g, i, none⟩ = false := by simp [World.frozen?, h]
/-- The cells of the three blocks that Do makes. -/
theorem three_cells {w w1 : World} {a0 a1 b0 b1 b2 c0 c1 : Value} (hb : Below (((w.alloc (.cells #[a0, a1] 31)).alloc (.cells #[b0, b1, b2] 33)).alloc (.cells #[c0, c1] 31)).heap.size (((w.alloc (.cells #[a0, a1] 31)).alloc (.cells #[b0, b1, b2] 33)).alloc (.cells #[c0, c1] 31)) w1) :
    w1.cell? ⟨w.heap.size, 0, none⟩ = some a0 ∧ w1.cell? ⟨w.heap.size, 1, none⟩ = some a1 ∧ w1.cell? ⟨w.heap.size + 1, 1, none⟩ = some b1 ∧ w1.cell? ⟨w.heap.size + 1, 2, none⟩ = some b2 ∧
    w1.cell? ⟨w.heap.size + 1 + 1, 0, none⟩ = some c0 ∧ w1.cell? ⟨w.heap.size + 1 + 1, 1, none⟩ = some c1 ∧
    w1.frozen? ⟨w.heap.size, 0, none⟩ = false ∧ w1.frozen? ⟨w.heap.size + 1 + 1, 0, none⟩ = false ∧ w1.frozen? ⟨w.heap.size + 1 + 1, 1, none⟩ = false := by
  obtain ⟨h0, h1, h2, _⟩ := three_blocks hb
  exact ⟨cell_of_row w1 _ 0 _ _ _ h0, cell_of_row w1 _ 1 _ _ _ h0, cell_of_row w1 _ 1 _ _ _ h1, cell_of_row w1 _ 2 _ _ _ h1, cell_of_row w1 _ 0 _ _ _ h2, cell_of_row w1 _ 1 _ _ _ h2, frozen_at h0, frozen_at h2, frozen_at h2⟩

theorem set_same {w : World} {a : Addr} (h : ∃ v, w.cell? a = some v) (u : Value) : (w.setCell a u).cell? a = some u := by
  obtain ⟨v, h⟩ := h
  exact World.cell?_setCell_same' w _ u (by rw [h]; rfl)
theorem set_far {w : World} {a b : Addr} {v : Value} (h : w.cell? a = some v) (hne : b ≠ a) (u : Value) : (w.setCell b u).cell? a = some v := by
  rw [World.cell?_setCell_other]
  · exact h
  · exact hne
theorem set_there {w : World} {a : Addr} (b : Addr) (u : Value) (h : ∃ v, w.cell? a = some v) : ∃ v, (w.setCell b u).cell? a = some v := by
  by_cases e : b = a
  · subst e
    exact ⟨u, set_same h u⟩
  · obtain ⟨v, h⟩ := h
    exact ⟨v, set_far h e u⟩
theorem set_other {w : World} {a : Addr} (h : ∃ v, w.cell? a = some v) (u : Value) (b : Addr) (hne : b ≠ a) (u' : Value) : ((w.setCell a u).setCell b u').cell? a = some u := set_far (set_same h u) hne u'

set_option maxHeartbeats 2000000 in
theorem do_other (S A : ByteArray) (room kind N : Int) (h0 : ¬ kind = 0) (h1 : ¬ kind = 1) (h2 : ¬ kind = 2) (h3 : ¬ kind = 3) (h4 : ¬ kind = 4) (h5 : ¬ kind = 5) (w : World) :
    Calls Try.prog 14 #[.agg #[.string S, .int .i64 room], .agg #[.int .i64 kind, .int .i64 N, .string A]] w (Did room S 0 ⟨#[]⟩ w) := by
  go_enter Try.func14, Try.ntmps14
  go_wp2_with fail
  exact bodyPost_ret (v := .tuple #[.agg #[.string S, .int .i64 room], .int .i64 0, .string ⟨#[]⟩]) (by simp [results, Try.results14, go_sem]) rfl ⟨rfl, below3 _ _ _ _⟩
set_option maxHeartbeats 2000000 in
theorem do_clear (S A : ByteArray) (room N : Int) (_hS : S.size ≤ 100000) (w : World) :
    Calls Try.prog 14 #[.agg #[.string S, .int .i64 room], .agg #[.int .i64 5, .int .i64 N, .string A]] w (Did room ⟨#[]⟩ S.size ⟨#[]⟩ w) := by
  go_enter Try.func14, Try.ntmps14
  go_wp2_with fail
  exact bodyPost_ret (v := .tuple #[.agg #[.string ⟨#[]⟩, .int .i64 room], .int .i64 S.size, .string ⟨#[]⟩]) (by simp [results, Try.results14, go_sem]) rfl ⟨rfl, below3 _ _ _ _⟩
set_option maxHeartbeats 2000000 in
theorem do_force (S A : ByteArray) (room N : Int) (hS : S.size ≤ 100000) (hA : A.size ≤ 100000) (w : World) :
    Calls Try.prog 14 #[.agg #[.string S, .int .i64 room], .agg #[.int .i64 1, .int .i64 N, .string A]] w (Did room (S ++ A) 0 ⟨#[]⟩ w) := by
  go_enter Try.func14, Try.ntmps14
  go_wp2_with fail
  exact bodyPost_ret (v := .tuple #[.agg #[.string (S ++ A), .int .i64 room], .int .i64 0, .string ⟨#[]⟩]) (by simp [results, Try.results14, go_sem]) rfl ⟨rfl, below3 _ _ _ _⟩
set_option maxHeartbeats 2000000 in
theorem do_read (S A T R : ByteArray) (room N : Int) (K : Nat) (hS : S.size ≤ 100000) (hK : cut N S.size = K) (hT : T = S.extract 0 K) (hR : R = S.extract K S.size) (w : World) :
    Calls Try.prog 14 #[.agg #[.string S, .int .i64 room], .agg #[.int .i64 2, .int .i64 N, .string A]] w (Did room R 0 T w) := by
  have hKl : K ≤ S.size := by rw [← hK]; exact cut_le _ _
  have hf := fun w => first_any S N (by omega) w
  rw [hK, ← hT] at hf
  have HF := Lib.hid hf
  have hs : T.size = K := by rw [hT, taken_size _ _ hKl]
  have HR := Lib.hid hR
  clear hT hf hK hR
  go_enter Try.func14, Try.ntmps14
  go_wp2_with fail
  refine (HF.out _).mono ?_
  rintro e w1 ⟨rfl, rfl⟩
  go_wp2_with fail
  rw [HR.out]
  exact bodyPost_ret (v := .tuple #[.agg #[.string (S.extract K S.size), .int .i64 room], .int .i64 0, .string T]) (by simp [results, Try.results14, go_sem]) rfl ⟨rfl, below3 _ _ _ _⟩
set_option maxHeartbeats 2000000 in
theorem do_drop (S A T R : ByteArray) (room N : Int) (K : Nat) (hS : S.size ≤ 100000) (hK : cut N S.size = K) (hT : T = S.extract 0 K) (hR : R = S.extract K S.size) (w : World) :
    Calls Try.prog 14 #[.agg #[.string S, .int .i64 room], .agg #[.int .i64 4, .int .i64 N, .string A]] w (Did room R K ⟨#[]⟩ w) := by
  have hKl : K ≤ S.size := by rw [← hK]; exact cut_le _ _
  have hf := fun w => first_any S N (by omega) w
  rw [hK, ← hT] at hf
  have HF := Lib.hid hf
  have hs : T.size = K := by rw [hT, taken_size _ _ hKl]
  have HR := Lib.hid hR
  clear hT hf hK hR
  go_enter Try.func14, Try.ntmps14
  go_wp2_with fail
  refine (HF.out _).mono ?_
  rintro e w1 ⟨rfl, rfl⟩
  go_wp2_with fail
  rw [HR.out]
  exact bodyPost_ret (v := .tuple #[.agg #[.string (S.extract K S.size), .int .i64 room], .int .i64 K, .string ⟨#[]⟩]) (by simp [results, Try.results14, go_sem]) rfl ⟨rfl, below3 _ _ _ _⟩
set_option maxHeartbeats 2000000 in
theorem do_peek (S A T : ByteArray) (room N : Int) (K : Nat) (hS : S.size ≤ 100000) (hK : cut N S.size = K) (hT : T = S.extract 0 K) (w : World) :
    Calls Try.prog 14 #[.agg #[.string S, .int .i64 room], .agg #[.int .i64 3, .int .i64 N, .string A]] w (Did room S 0 T w) := by
  have hf := fun w => first_any S N (by omega) w
  rw [hK, ← hT] at hf
  have HF := Lib.hid hf
  clear hT hf hK
  go_enter Try.func14, Try.ntmps14
  go_wp2_with fail
  have h3 := three_cells (Below.refl _ (((w.alloc (.cells #[.string S, .int .i64 room] 31)).alloc (.cells #[.int .i64 3, .int .i64 N, .string A] 33)).alloc (.cells #[.string ⟨#[]⟩, .int .i64 0] 31)))
  have HB := Lib.hid (below3 w (.cells #[.string S, .int .i64 room] 31) (.cells #[.int .i64 3, .int .i64 N, .string A] 33) (.cells #[.string ⟨#[]⟩, .int .i64 0] 31))
  generalize (((w.alloc (.cells #[.string S, .int .i64 room] 31)).alloc (.cells #[.int .i64 3, .int .i64 N, .string A] 33)).alloc (.cells #[.string ⟨#[]⟩, .int .i64 0] 31)) = w3 at *
  obtain ⟨x0, x1, x2, x3, x4, x5, y0, y1, y2⟩ := h3
  have HC := Lib.hid (show ∀ w', Below (w.heap.size + 1 + 1) w3 w' → w'.cell? ⟨w.heap.size, 0, none⟩ = some (.string S) ∧ w'.cell? ⟨w.heap.size, 1, none⟩ = some (.int .i64 room) ∧ w'.cell? ⟨w.heap.size + 1, 1, none⟩ = some (.int .i64 N) from
    fun w' hb => ⟨(hb.cell (by simp; omega)).trans x0, (hb.cell (by simp; omega)).trans x1, (hb.cell (by simp)).trans x2⟩)
  go_region_held (fun w' => w'.cell? ⟨w.heap.size, 0, none⟩ = some (.string S) ∧ w'.cell? ⟨w.heap.size, 1, none⟩ = some (.int .i64 room) ∧ w'.cell? ⟨w.heap.size + 1, 1, none⟩ = some (.int .i64 N))
    ((refine HC.out _ ?_
      first
        | exact (Below.refl _ _).drew
        | exact (((Below.refl _ _).setCell (p := ⟨w.heap.size + 1 + 1, 0, none⟩) (Nat.le_refl _) _).setCell (p := ⟨w.heap.size + 1 + 1, 1, none⟩) (Nat.le_refl _) _).drew))
    (first
      | (go_at_call 27; (with_reducible refine Calls.mono (HF.out _) ?_); rintro e w' ⟨rfl, rfl⟩))
  clear HC
  all_goals
    go_wp2_with fail
    exact bodyPost_ret (v := .tuple #[.agg #[.string S, .int .i64 room], .int .i64 0, .string T]) (by simp [results, Try.results14, go_sem, x4, x5]) rfl ⟨rfl, ((HB.out.setCell (p := ⟨w.heap.size + 1 + 1, 0, none⟩) (by simp; omega) _).setCell (p := ⟨w.heap.size + 1 + 1, 1, none⟩) (by simp; omega) _).drew⟩
set_option maxHeartbeats 2000000 in
theorem do_write (S A T R : ByteArray) (room N : Int) (K : Nat) (hS : S.size ≤ 100000) (hA : A.size ≤ 100000) (h0 : 0 ≤ room) (h1 : room ≤ 4096) (hK : min A.size (room.toNat - S.size) = K) (hT : T = A.extract 0 K) (hR : R = S ++ T) (w : World) :
    Calls Try.prog 14 #[.agg #[.string S, .int .i64 room], .agg #[.int .i64 0, .int .i64 N, .string A]] w (Did room R K ⟨#[]⟩ w) := by
  have hKl : K ≤ A.size := by omega
  have hcut : cut ((room.toNat - S.size : Nat) : Int) A.size = K := by unfold cut; omega
  have hs : T.size = K := by rw [hT, taken_size _ _ hKl]
  have hFm := fun w => rfree_any S room h0 h1 (by omega) w
  obtain ⟨F, hFr⟩ : ∃ F, room.toNat - S.size = F := ⟨_, rfl⟩
  rw [hFr] at hcut hFm
  have hf := fun w => first_any A (F : Int) (by omega) w
  rw [hcut, ← hT] at hf
  have HF := Lib.hid hf
  have HM := Lib.hid hFm
  have HR := Lib.hid hR
  clear hT hf hK hR hcut hFm hFr
  go_enter Try.func14, Try.ntmps14
  go_wp2_with fail
  have HC := Lib.hid (fun (w' : World) (hb : Below (((w.alloc (.cells #[.string S, .int .i64 room] 31)).alloc (.cells #[.int .i64 0, .int .i64 N, .string A] 33)).alloc (.cells #[.string ⟨#[]⟩, .int .i64 0] 31)).heap.size (((w.alloc (.cells #[.string S, .int .i64 room] 31)).alloc (.cells #[.int .i64 0, .int .i64 N, .string A] 33)).alloc (.cells #[.string ⟨#[]⟩, .int .i64 0] 31)) w') => And.intro (three_cells hb) hb)
  have HB := Lib.hid (below3 w (.cells #[.string S, .int .i64 room] 31) (.cells #[.int .i64 0, .int .i64 N, .string A] 33) (.cells #[.string ⟨#[]⟩, .int .i64 0] 31))
  generalize (((w.alloc (.cells #[.string S, .int .i64 room] 31)).alloc (.cells #[.int .i64 0, .int .i64 N, .string A] 33)).alloc (.cells #[.string ⟨#[]⟩, .int .i64 0] 31)) = w3 at *
  have HD := Lib.hid (show ∀ w', Below w3.heap.size w3 w' → w'.cell? ⟨w.heap.size, 0, none⟩ = some (.string S) ∧ w'.cell? ⟨w.heap.size, 1, none⟩ = some (.int .i64 room) ∧ w'.cell? ⟨w.heap.size + 1, 2, none⟩ = some (.string A) ∧ Below w3.heap.size w3 w' from
    fun w' hb => ⟨(HC.out w' hb).1.1, (HC.out w' hb).1.2.1, (HC.out w' hb).1.2.2.2.1, hb⟩)
  go_region_held (fun w' => w'.cell? ⟨w.heap.size, 0, none⟩ = some (.string S) ∧ w'.cell? ⟨w.heap.size, 1, none⟩ = some (.int .i64 room) ∧ w'.cell? ⟨w.heap.size + 1, 2, none⟩ = some (.string A) ∧ Below w3.heap.size w3 w')
    ((refine HD.out _ ?_
      go_split_ands
      first
        | with_reducible exact (Below.refl _ _).drew
        | with_reducible assumption))
    (first
      | (go_at_call 19; go_split_ands; (with_reducible refine Calls.mono (HM.out _) ?_); rintro e w' ⟨rfl, hb⟩; (have hb' := seqB (by assumption) hb); clear hb)
      | (go_at_call 27; go_split_ands; (with_reducible refine Calls.mono (HF.out _) ?_); rintro e w' ⟨rfl, rfl⟩))
  go_split_ands
  rename_i hbb
  have HBB := Lib.hid (seqB HB.out hbb)
  obtain ⟨⟨x0, x1, x2, x3, x4, x5, y0, y1, y2⟩, _⟩ := HC.out _ hbb
  clear HC HD hbb HM HF
  go_wp2_with fail
  rw [HR.out]
  have hz1 := set_same (set_there ⟨w.heap.size + 1 + 1, 0, none⟩ (.string (S ++ T)) (set_there ⟨w.heap.size, 0, none⟩ (.string (S ++ T)) ⟨_, x5⟩)) (.int .i64 room)
  have hz0 := (set_other (a := ⟨w.heap.size + 1 + 1, 0, none⟩) (set_there ⟨w.heap.size, 0, none⟩ (.string (S ++ T)) ⟨_, x4⟩) (.string (S ++ T)) ⟨w.heap.size + 1 + 1, 1, none⟩ (by simp) (.int .i64 room))
  exact bodyPost_ret (v := .tuple #[.agg #[.string (S ++ T), .int .i64 room], .int .i64 K, .string ⟨#[]⟩]) (by simp [results, Try.results14, go_sem, hz0, hz1]) rfl ⟨rfl, ((HBB.out.setCell (p := ⟨w.heap.size, 0, none⟩) (by simp) _).setCell (p := ⟨w.heap.size + 1 + 1, 0, none⟩) (by simp; omega) _).setCell (p := ⟨w.heap.size + 1 + 1, 1, none⟩) (by simp; omega) _⟩
end Go.Proofs.Ytkjljnfhnkaocaa

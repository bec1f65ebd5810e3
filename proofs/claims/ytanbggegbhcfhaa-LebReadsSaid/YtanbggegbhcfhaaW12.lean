/-
  Contracts: what the document's own Do answers. Conditions: as each states.
-/
import Derived.Test.YtanbggegbhcfhaaW11
namespace Go.Proofs.Ytanbggegbhcfhaa
open Go.RowKit

/-- What Do hands back: the reader, a number, a text. -/
def Did (S : ByteArray) (k : Nat) (bad : Bool) (n : Nat) (t : ByteArray) (w : World) (e : Ending) (w' : World) : Prop := e = .returned (.tuple #[.agg #[.string S, .int .i64 k, .bool bad], .int .i64 n, .string t]) ∧ Below w.heap.size w w'
theorem below3 (w : World) (o o' o'' : Obj) : Below w.heap.size w (((w.alloc o).alloc o').alloc o'') := (((Below.refl _ _).alloc (Nat.le_refl _) _).alloc (by simp) _).alloc (by simp; omega) _

set_option maxHeartbeats 2000000 in
theorem do_bad (S : ByteArray) (k : Nat) (kind most : Int) (w : World) : Calls Try.prog 20 #[.agg #[.string S, .int .i64 k, .bool true], .agg #[.int .i64 kind, .int .i64 most]] w (Did S k true 0 ⟨#[]⟩ w) := by
  go_enter Try.func20, Try.ntmps20
  go_wp2_with fail
  exact bodyPost_ret (v := .tuple #[.agg #[.string S, .int .i64 k, .bool true], .int .i64 0, .string ⟨#[]⟩]) (by simp [results, Try.results20, go_sem]) rfl ⟨rfl, below3 _ _ _ _⟩
set_option maxHeartbeats 2000000 in
theorem do_low (S : ByteArray) (k : Nat) (kind most : Int) (h : kind < 0) (w : World) : Calls Try.prog 20 #[.agg #[.string S, .int .i64 k, .bool false], .agg #[.int .i64 kind, .int .i64 most]] w (Did S k false 0 ⟨#[]⟩ w) := by
  have d0 : decide (kind < 0) = true := by simpa using h
  go_enter Try.func20, Try.ntmps20
  go_wp2_with fail
  exact bodyPost_ret (v := .tuple #[.agg #[.string S, .int .i64 k, .bool false], .int .i64 0, .string ⟨#[]⟩]) (by simp [results, Try.results20, go_sem]) rfl ⟨rfl, below3 _ _ _ _⟩
set_option maxHeartbeats 2000000 in
theorem do_high (S : ByteArray) (k : Nat) (kind most : Int) (h : 2 < kind) (w : World) : Calls Try.prog 20 #[.agg #[.string S, .int .i64 k, .bool false], .agg #[.int .i64 kind, .int .i64 most]] w (Did S k false 0 ⟨#[]⟩ w) := by
  have d0 : decide (kind < 0) = false := by simp; omega
  have d1 : decide (2 < kind) = true := by simpa using h
  go_enter Try.func20, Try.ntmps20
  go_wp2_with fail
  exact bodyPost_ret (v := .tuple #[.agg #[.string S, .int .i64 k, .bool false], .int .i64 0, .string ⟨#[]⟩]) (by simp [results, Try.results20, go_sem]) rfl ⟨rfl, below3 _ _ _ _⟩

theorem three_blocks {w w1 : World} {o0 o1 o2 : Obj} (hb : Below (((w.alloc o0).alloc o1).alloc o2).heap.size (((w.alloc o0).alloc o1).alloc o2) w1) :
    w1.heap[w.heap.size]? = some o0 ∧ w1.heap[w.heap.size + 1]? = some o1 ∧ w1.heap[w.heap.size + 1 + 1]? = some o2 ∧ w.heap.size + 1 + 1 < w1.heap.size := by
  have hs := hb.size
  have s0 : (w.alloc o0).heap.size = w.heap.size + 1 := by simp
  have s1 : ((w.alloc o0).alloc o1).heap.size = w.heap.size + 1 + 1 := by simp
  have s2 : (((w.alloc o0).alloc o1).alloc o2).heap.size = w.heap.size + 1 + 1 + 1 := by simp
  rw [s2] at hs hb
  refine ⟨?_, ?_, ?_, by omega⟩
  · rw [hb.block _ (by omega), Below.heap_alloc _ _ _ (by omega), Below.heap_alloc _ _ _ (by omega)]
    exact heap_alloc_new w o0
  · rw [hb.block _ (by omega), Below.heap_alloc _ _ _ (by omega)]
    have := heap_alloc_new (w.alloc o0) o1
    rw [s0] at this
    exact this
  · rw [hb.block _ (by omega)]
    have := heap_alloc_new ((w.alloc o0).alloc o1) o2
    rw [s1] at this
    exact this
theorem frozen_at {w : World} {g i : Nat} {cs : Array Value} {t : TypeId} (h : w.heap[g]? = some (.cells cs t (0, 0))) : w.frozen? ⟨g, i, none⟩ = false := by simp [World.frozen?, h]
/-- The cells of the three blocks that Do makes. -/
theorem three_cells {w w1 : World} {a0 a1 a2 b0 b1 c0 c1 c2 : Value} (hb : Below (((w.alloc (.cells #[a0, a1, a2] 40)).alloc (.cells #[b0, b1] 42)).alloc (.cells #[c0, c1, c2] 40)).heap.size (((w.alloc (.cells #[a0, a1, a2] 40)).alloc (.cells #[b0, b1] 42)).alloc (.cells #[c0, c1, c2] 40)) w1) :
    w1.cell? ⟨w.heap.size, 0, none⟩ = some a0 ∧ w1.cell? ⟨w.heap.size, 1, none⟩ = some a1 ∧ w1.cell? ⟨w.heap.size, 2, none⟩ = some a2 ∧ w1.cell? ⟨w.heap.size + 1, 0, none⟩ = some b0 ∧ w1.cell? ⟨w.heap.size + 1, 1, none⟩ = some b1 ∧
    w1.cell? ⟨w.heap.size + 1 + 1, 0, none⟩ = some c0 ∧ w1.cell? ⟨w.heap.size + 1 + 1, 1, none⟩ = some c1 ∧ w1.cell? ⟨w.heap.size + 1 + 1, 2, none⟩ = some c2 ∧
    w1.frozen? ⟨w.heap.size, 1, none⟩ = false ∧ w1.frozen? ⟨w.heap.size, 2, none⟩ = false ∧ w1.frozen? ⟨w.heap.size + 1 + 1, 0, none⟩ = false ∧ w1.frozen? ⟨w.heap.size + 1 + 1, 1, none⟩ = false ∧ w1.frozen? ⟨w.heap.size + 1 + 1, 2, none⟩ = false := by
  obtain ⟨h0, h1, h2, _⟩ := three_blocks hb
  exact ⟨cell_of_row w1 _ 0 _ _ _ h0, cell_of_row w1 _ 1 _ _ _ h0, cell_of_row w1 _ 2 _ _ _ h0, cell_of_row w1 _ 0 _ _ _ h1, cell_of_row w1 _ 1 _ _ _ h1, cell_of_row w1 _ 0 _ _ _ h2, cell_of_row w1 _ 1 _ _ _ h2, cell_of_row w1 _ 2 _ _ _ h2,
    frozen_at h0, frozen_at h0, frozen_at h2, frozen_at h2, frozen_at h2⟩
theorem str_rest (s : ByteArray) (k : Nat) : s.extract k s.size = strOfNums ((nums s).drop k) := by
  apply ByteArray.ext
  apply Array.ext'
  have e : (strOfNums (nums s)).data.toList = s.data.toList := by rw [str_nums]
  rw [strOfNums_data] at e
  rw [strOfNums_data, List.map_drop, e]
  simp [ByteArray.data_extract, List.take_of_length_le]

set_option maxHeartbeats 4000000 in
theorem do_int_yes (S R : ByteArray) (k : Nat) (most : Int) (w : World) (hS : S.size ≤ 2000) (hk : k ≤ S.size) (hR : S.extract k S.size = R) (N H : Nat) (hG : ∀ w, Calls Try.prog 12 #[.string R] w fun e w' => e = .returned (.tuple #[.int .i64 N, .int .i64 H]) ∧ Below w.heap.size w w') (h9 : H ≤ 9) (h1 : ¬ H = 0) (h2 : (N : Int) ≤ most) :
    Calls Try.prog 20 #[.agg #[.string S, .int .i64 k, .bool false], .agg #[.int .i64 0, .int .i64 most]] w (Did S (k + H) false N ⟨#[]⟩ w) := by
  have HG := Lib.hid hG
  clear hG
  have c1 : ((H : Int) == 0) = false := by simp; omega
  have d2 : decide (most < (N : Int)) = false := by simp; omega
  go_enter Try.func20, Try.ntmps20
  go_wp2_with fail
  refine (HG.out _).mono ?_
  rintro e w1 ⟨rfl, hb1⟩
  obtain ⟨x0, x1, x2, x3, x4, x5, x6, x7, y1, y2, y3, y4, y5⟩ := three_cells hb1
  have HB1 := Lib.hid (seqB (below3 _ _ _ _) hb1)
  clear hb1
  go_wp2_with fail
  exact bodyPost_ret (v := .tuple #[.agg #[.string S, .int .i64 (k + H), .bool false], .int .i64 N, .string ⟨#[]⟩]) (by simp [results, Try.results20, go_sem, x5, x6, x7]) rfl ⟨rfl, (((HB1.out.setCell (by simp) _).setCell (by simp; omega) _).setCell (by simp; omega) _).setCell (by simp; omega) _⟩
set_option maxHeartbeats 4000000 in
theorem do_int_none (S R : ByteArray) (k : Nat) (most : Int) (w : World) (_hS : S.size ≤ 2000) (hk : k ≤ S.size) (hR : S.extract k S.size = R) (N H : Nat) (hG : ∀ w, Calls Try.prog 12 #[.string R] w fun e w' => e = .returned (.tuple #[.int .i64 N, .int .i64 H]) ∧ Below w.heap.size w w') (h1 : H = 0) :
    Calls Try.prog 20 #[.agg #[.string S, .int .i64 k, .bool false], .agg #[.int .i64 0, .int .i64 most]] w (Did S k true 0 ⟨#[]⟩ w) := by
  have HG := Lib.hid hG
  clear hG
  subst h1
  go_enter Try.func20, Try.ntmps20
  go_wp2_with fail
  refine (HG.out _).mono ?_
  rintro e w1 ⟨rfl, hb1⟩
  obtain ⟨x0, x1, x2, x3, x4, x5, x6, x7, y1, y2, y3, y4, y5⟩ := three_cells hb1
  have HB1 := Lib.hid (seqB (below3 _ _ _ _) hb1)
  clear hb1
  go_wp2_with fail
  exact bodyPost_ret (v := .tuple #[.agg #[.string S, .int .i64 k, .bool true], .int .i64 0, .string ⟨#[]⟩]) (by simp [results, Try.results20, go_sem, x5, x6, x7]) rfl ⟨rfl, (((HB1.out.setCell (by simp) _).setCell (by simp; omega) _).setCell (by simp; omega) _).setCell (by simp; omega) _⟩
set_option maxHeartbeats 4000000 in
theorem do_int_big (S R : ByteArray) (k : Nat) (most : Int) (w : World) (_hS : S.size ≤ 2000) (hk : k ≤ S.size) (hR : S.extract k S.size = R) (N H : Nat) (hG : ∀ w, Calls Try.prog 12 #[.string R] w fun e w' => e = .returned (.tuple #[.int .i64 N, .int .i64 H]) ∧ Below w.heap.size w w') (h1 : ¬ H = 0) (h2 : most < (N : Int)) :
    Calls Try.prog 20 #[.agg #[.string S, .int .i64 k, .bool false], .agg #[.int .i64 0, .int .i64 most]] w (Did S k true 0 ⟨#[]⟩ w) := by
  have HG := Lib.hid hG
  clear hG
  have c1 : ((H : Int) == 0) = false := by simp; omega
  have d2 : decide (most < (N : Int)) = true := by simpa using h2
  go_enter Try.func20, Try.ntmps20
  go_wp2_with fail
  refine (HG.out _).mono ?_
  rintro e w1 ⟨rfl, hb1⟩
  obtain ⟨x0, x1, x2, x3, x4, x5, x6, x7, y1, y2, y3, y4, y5⟩ := three_cells hb1
  have HB1 := Lib.hid (seqB (below3 _ _ _ _) hb1)
  clear hb1
  go_wp2_with fail
  exact bodyPost_ret (v := .tuple #[.agg #[.string S, .int .i64 k, .bool true], .int .i64 0, .string ⟨#[]⟩]) (by simp [results, Try.results20, go_sem, x5, x6, x7]) rfl ⟨rfl, (((HB1.out.setCell (by simp) _).setCell (by simp; omega) _).setCell (by simp; omega) _).setCell (by simp; omega) _⟩
set_option maxHeartbeats 4000000 in
theorem do_str_yes (S R : ByteArray) (k : Nat) (most : Int) (w : World) (hS : S.size ≤ 2000) (hk : k ≤ S.size) (hR : S.extract k S.size = R) (T : ByteArray) (H : Nat) (hG : ∀ w, Calls Try.prog 16 #[.string R, .int .i64 most] w fun e w' => e = .returned (.tuple #[.string T, .int .i64 H]) ∧ Below w.heap.size w w') (h9 : H ≤ 5000) (h1 : ¬ H = 0) :
    Calls Try.prog 20 #[.agg #[.string S, .int .i64 k, .bool false], .agg #[.int .i64 2, .int .i64 most]] w (Did S (k + H) false 0 T w) := by
  have HG := Lib.hid hG
  clear hG
  have c1 : ((H : Int) == 0) = false := by simp; omega
  go_enter Try.func20, Try.ntmps20
  go_wp2_with fail
  refine (HG.out _).mono ?_
  rintro e w1 ⟨rfl, hb1⟩
  obtain ⟨x0, x1, x2, x3, x4, x5, x6, x7, y1, y2, y3, y4, y5⟩ := three_cells hb1
  have HB1 := Lib.hid (seqB (below3 _ _ _ _) hb1)
  clear hb1
  go_wp2_with fail
  exact bodyPost_ret (v := .tuple #[.agg #[.string S, .int .i64 (k + H), .bool false], .int .i64 0, .string T]) (by simp [results, Try.results20, go_sem, x5, x6, x7]) rfl ⟨rfl, (((HB1.out.setCell (by simp) _).setCell (by simp; omega) _).setCell (by simp; omega) _).setCell (by simp; omega) _⟩
set_option maxHeartbeats 4000000 in
theorem do_str_none (S R : ByteArray) (k : Nat) (most : Int) (w : World) (_hS : S.size ≤ 2000) (hk : k ≤ S.size) (hR : S.extract k S.size = R) (T : ByteArray) (H : Nat) (hG : ∀ w, Calls Try.prog 16 #[.string R, .int .i64 most] w fun e w' => e = .returned (.tuple #[.string T, .int .i64 H]) ∧ Below w.heap.size w w') (h1 : H = 0) :
    Calls Try.prog 20 #[.agg #[.string S, .int .i64 k, .bool false], .agg #[.int .i64 2, .int .i64 most]] w (Did S k true 0 ⟨#[]⟩ w) := by
  have HG := Lib.hid hG
  clear hG
  subst h1
  go_enter Try.func20, Try.ntmps20
  go_wp2_with fail
  refine (HG.out _).mono ?_
  rintro e w1 ⟨rfl, hb1⟩
  obtain ⟨x0, x1, x2, x3, x4, x5, x6, x7, y1, y2, y3, y4, y5⟩ := three_cells hb1
  have HB1 := Lib.hid (seqB (below3 _ _ _ _) hb1)
  clear hb1
  go_wp2_with fail
  exact bodyPost_ret (v := .tuple #[.agg #[.string S, .int .i64 k, .bool true], .int .i64 0, .string ⟨#[]⟩]) (by simp [results, Try.results20, go_sem, x5, x6, x7]) rfl ⟨rfl, (((HB1.out.setCell (by simp) _).setCell (by simp; omega) _).setCell (by simp; omega) _).setCell (by simp; omega) _⟩
set_option maxHeartbeats 4000000 in
theorem do_byte_none (S R : ByteArray) (k : Nat) (most : Int) (w : World) (_hS : S.size ≤ 2000) (hk : k ≤ S.size) (hR : S.extract k S.size = R) (h1 : R.size = 0) :
    Calls Try.prog 20 #[.agg #[.string S, .int .i64 k, .bool false], .agg #[.int .i64 1, .int .i64 most]] w (Did S k true 0 ⟨#[]⟩ w) := by
  have d1 : decide (0 < R.size) = false := decide_eq_false (by omega)
  have d1' : decide ((0 : Int) < (R.size : Int)) = false := decide_eq_false (by omega)
  go_enter Try.func20, Try.ntmps20
  go_wp2_with fail
  exact bodyPost_ret (v := .tuple #[.agg #[.string S, .int .i64 k, .bool true], .int .i64 0, .string ⟨#[]⟩]) (by simp [results, Try.results20, go_sem]) rfl ⟨rfl, below3 _ _ _ _⟩
set_option maxHeartbeats 4000000 in
theorem do_byte_big (S R : ByteArray) (k : Nat) (most : Int) (w : World) (_hS : S.size ≤ 2000) (hk : k ≤ S.size) (hR : S.extract k S.size = R) (x : Int) (h1 : 0 < R.size) (hx : ((R[0]'h1).toNat : Int) = x) (_h3 : 0 ≤ x) (h4 : x < 256) (h2 : most < x) :
    Calls Try.prog 20 #[.agg #[.string S, .int .i64 k, .bool false], .agg #[.int .i64 1, .int .i64 most]] w (Did S k true 0 ⟨#[]⟩ w) := by
  have d1 : decide (0 < R.size) = true := by simpa using h1
  have d2 : decide (most < x) = true := by simpa using h2
  go_enter Try.func20, Try.ntmps20
  go_wp2_with fail
  exact bodyPost_ret (v := .tuple #[.agg #[.string S, .int .i64 k, .bool true], .int .i64 0, .string ⟨#[]⟩]) (by simp [results, Try.results20, go_sem]) rfl ⟨rfl, below3 _ _ _ _⟩
set_option maxHeartbeats 4000000 in
theorem do_byte_yes (S R : ByteArray) (k : Nat) (most : Int) (w : World) (hS : S.size ≤ 2000) (hk : k ≤ S.size) (hR : S.extract k S.size = R) (x : Int) (h1 : 0 < R.size) (hx : ((R[0]'h1).toNat : Int) = x) (h3 : 0 ≤ x) (h4 : x < 256) (h2 : x ≤ most) :
    Calls Try.prog 20 #[.agg #[.string S, .int .i64 k, .bool false], .agg #[.int .i64 1, .int .i64 most]] w (Did S (k + 1) false x.toNat ⟨#[]⟩ w) := by
  have d1 : decide (0 < R.size) = true := by simpa using h1
  have d2 : decide (most < x) = false := by simp; omega
  go_enter Try.func20, Try.ntmps20
  go_wp2_with fail
  exact bodyPost_ret (v := .tuple #[.agg #[.string S, .int .i64 (k + 1), .bool false], .int .i64 x, .string ⟨#[]⟩]) (by simp [results, Try.results20, go_sem]) rfl ⟨by rw [Int.toNat_of_nonneg h3]; rfl, below3 _ _ _ _⟩
end Go.Proofs.Ytanbggegbhcfhaa

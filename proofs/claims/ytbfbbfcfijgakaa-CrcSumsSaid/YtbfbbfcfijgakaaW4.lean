/-
  Contract: the statements' own 'alive' returns true. Conditions: none.
-/
import Derived.Test.YtbfbbfcfijgakaaW3
import Derived.Lib.SlBytesConst
namespace Go.Proofs.Ytbfbbfcfijgakaa
open Go.RowKit

theorem World.cell?_alloc_fr (w : World) (cs : Array Value) (t : TypeId) (fr : Nat × Nat) (i : Nat) : (w.alloc (.cells cs t fr)).cell? ⟨w.heap.size, i, none⟩ = cs[i]? := by
  have h := heap_alloc_new w (.cells cs t fr)
  simp only [World.cell?]
  rw [h]
  rfl
theorem take_seal (xs : List Int) (n : Nat) (h : xs.length = n) : (sealL xs).take n = xs := by
  unfold sealL
  rw [← h, List.take_left]
/-- A row of cells that was made, as bytes. -/
theorem made_bytes (w : World) (xs : List Int) (n : Nat) (fr : Nat × Nat) (hn : xs.length = n) : Lib.BytesIn (w.alloc (.cells (xs.map (Value.int .u8)).toArray 5 fr)) (some ⟨w.heap.size, 0, none⟩) n xs := fun _ => ⟨_, _, rfl, fun i hi => by
    rw [World.cell?_alloc_fr]
    simp only [Nat.zero_add, List.getElem?_toArray, List.getElem?_map]
    rw [List.getD_eq_getElem?_getD, List.getElem?_eq_getElem (by omega)]
    rfl⟩
theorem allB_of {xs : List Int} (h : xs.all (fun x => decide (0 ≤ x ∧ x < 256)) = true) : AllB xs := fun x hx => by
  have := List.all_eq_true.mp h x hx
  simpa using this
theorem conv_bytes {w : World} {p : Option Addr} {n : Nat} {xs : List Int} (h : Lib.BytesIn w p n xs) (hx : xs.length = n) (c : Nat) : (convert 22 9 (.slice p n c)).run Try.prog w = .ok (.string (strOfNums xs)) w :=
  h.convert hx c 22 5 9 Try.underlying22 Try.underlying5 Try.underlying9

theorem conv_second (w : World) (o : Obj) (C : Array Value) (n c : Nat) : (convert 22 22 (.slice (some ⟨w.heap.size + 1, 0, none⟩) n c)).run Try.prog ((w.alloc o).alloc (.cells C 5)) =
    .ok (.slice (some ⟨w.heap.size + 1, 0, none⟩) n c) ((w.alloc o).alloc (.cells C 5 (C.size, C.size + 1))) := by
  have h := Lib.run_convert_bytes_const (P := Try.prog) (w.alloc o) 22 5 C n c Try.underlying22 Try.underlying5
  rw [show (w.alloc o).heap.size = w.heap.size + 1 by simp] at h
  exact h
/-- Parts of two, of three, of none. -/
theorem parts_two (g cap : Nat) (A B : Sl) (w : World) (h0 : w.cell? ⟨g, 0, none⟩ = some (.slice A.p A.n A.c)) (h1 : w.cell? ⟨g, 1, none⟩ = some (.slice B.p B.n B.c)) (hA : A.ok w) (hB : B.ok w) :
    Calls Try.prog 14 #[.slice (some ⟨g, 0, none⟩) 2 cap] w fun e w' => e = .returned (.int .u32 (sumB (A.xs ++ B.xs)).toNat) ∧ w = w' := by
  have h := parts_any (some ⟨g, 0, none⟩) 2 cap [A, B] w rfl (by omega) (fun _ => ⟨g, 0, rfl, fun k l hk => by
    match k, hk with
    | 0, hk => cases hk; exact h0
    | 1, hk => cases hk; exact h1⟩) (fun l hl => by
    simp only [List.mem_cons, List.not_mem_nil, or_false] at hl
    rcases hl with rfl | rfl
    · exact hA
    · exact hB)
  simpa [flat] using h
theorem parts_three (g cap : Nat) (A B C : Sl) (w : World) (h0 : w.cell? ⟨g, 0, none⟩ = some (.slice A.p A.n A.c)) (h1 : w.cell? ⟨g, 1, none⟩ = some (.slice B.p B.n B.c)) (h2 : w.cell? ⟨g, 2, none⟩ = some (.slice C.p C.n C.c)) (hA : A.ok w) (hB : B.ok w) (hC : C.ok w) :
    Calls Try.prog 14 #[.slice (some ⟨g, 0, none⟩) 3 cap] w fun e w' => e = .returned (.int .u32 (sumB (A.xs ++ (B.xs ++ C.xs))).toNat) ∧ w = w' := by
  have h := parts_any (some ⟨g, 0, none⟩) 3 cap [A, B, C] w rfl (by omega) (fun _ => ⟨g, 0, rfl, fun k l hk => by
    match k, hk with
    | 0, hk => cases hk; exact h0
    | 1, hk => cases hk; exact h1
    | 2, hk => cases hk; exact h2⟩) (fun l hl => by
    simp only [List.mem_cons, List.not_mem_nil, or_false] at hl
    rcases hl with rfl | rfl | rfl
    · exact hA
    · exact hB
    · exact hC)
  simpa [flat] using h
theorem parts_none (w : World) : Calls Try.prog 14 #[.slice none 0 0] w fun e w' => e = .returned (.int .u32 (sumB []).toNat) ∧ w = w' :=
  parts_any none 0 0 [] w rfl (by omega) (fun h => absurd h (by omega)) (fun l hl => by cases hl)
theorem sum_nine : ((sumB [49, 50, 51, 52, 53, 54, 55, 56, 57]).toNat : Int) = 3421780262 := by decide +kernel

set_option maxHeartbeats 2000000 in
theorem alive_any (w : World) : Calls Try.prog 10 #[] w fun e w' => e = .returned (.bool true) ∧ Below w.heap.size w w' := by
  have kc := fun (w : World) (C : Array Value) (n c : Nat) => Lib.run_convert_bytes_const (P := Try.prog) w 22 5 C n c Try.underlying22 Try.underlying5
  go_enter Try.func10, Try.ntmps10
  go_wp2_with fail
  have HI := Lib.hid (made_bytes w [97, 98] 2 (2, 3) rfl)
  have HW1 := Lib.hid (show Below w.heap.size w (w.alloc (.cells #[.int .u8 97, .int .u8 98] 5 (2, 3))) from (Below.refl _ _).alloc (Nat.le_refl _) _)
  simp only [List.map_cons, List.map_nil] at HI
  generalize w.alloc (.cells #[.int .u8 97, .int .u8 98] 5 (2, 3)) = w1 at *
  refine (seal_any _ 2 2 [97, 98] _ rfl (by omega) (allB_of (by decide)) (fun h => by cases h) HI.out).mono ?_
  rintro e w2 ⟨v, rfl, hown, hb2⟩
  obtain ⟨p, c, rfl, hl, hi2, hpc, hnc, _⟩ := own_bytes hown
  obtain ⟨b, o, rfl, _⟩ := hi2.at (by omega)
  have HI2 := Lib.hid hi2
  have HB2 := Lib.hid hb2
  clear hown hb2 hi2 hl hpc HI
  go_wp2_with fail
  refine (open_yes b o 2 c (sealL [97, 98]) _ (length_seal _) hnc (by omega) (allB_seal _ (allB_of (by decide))) HI2.out (okB_seal _ (allB_of (by decide)))).mono ?_
  rintro e w3 ⟨v, rfl, hown, hb3⟩
  obtain ⟨p3, c3, rfl, hl, hi3, hpc, hnc, _⟩ := own_bytes hown
  rw [take_seal [97, 98] 2 rfl] at hi3
  have HI3 := Lib.hid hi3
  have HB3 := Lib.hid hb3
  clear hown hb3 hi3 hl hpc hnc HI2
  go_wp2_with fail
  have HI4 := Lib.hid (made_bytes w3 [49, 50, 51, 52, 53, 54, 55, 56, 57] 9 (9, 10) rfl)
  simp only [List.map_cons, List.map_nil] at HI4
  have HB4 := Lib.hid (show Below w3.heap.size w3 (w3.alloc (.cells #[.int .u8 49, .int .u8 50, .int .u8 51, .int .u8 52, .int .u8 53, .int .u8 54, .int .u8 55, .int .u8 56, .int .u8 57] 5 (9, 10))) from (Below.refl _ _).alloc (Nat.le_refl _) _)
  generalize w3.alloc (.cells #[.int .u8 49, .int .u8 50, .int .u8 51, .int .u8 52, .int .u8 53, .int .u8 54, .int .u8 55, .int .u8 56, .int .u8 57] 5 (9, 10)) = w4 at *
  refine (sum_any _ 9 9 [49, 50, 51, 52, 53, 54, 55, 56, 57] _ rfl (by omega) (allB_of (by decide)) HI4.out).mono ?_
  rintro e w5 ⟨rfl, rfl⟩
  rw [sum_nine]
  have cv := conv_bytes (bytes_on HI3.out HB4.out) rfl c3
  have se : ((strOfNums [97, 98]).toList == [97, 98]) = true := by rw [Lib.strOfNums_toList]; decide
  have kc2 := conv_second
  go_wp2_with fail
  clear cv se kc kc2
  have HI5 := Lib.hid (made_bytes w4 [49, 50, 51, 52] 4 (4, 5) rfl)
  simp only [List.map_cons, List.map_nil] at HI5
  have HB5 := Lib.hid (show Below w4.heap.size w4 (w4.alloc (.cells #[.int .u8 49, .int .u8 50, .int .u8 51, .int .u8 52] 5 (4, 5))) from (Below.refl _ _).alloc (Nat.le_refl _) _)
  have hs5 : (w4.alloc (.cells #[.int .u8 49, .int .u8 50, .int .u8 51, .int .u8 52] 5 (4, 5))).heap.size = w4.heap.size + 1 := by simp
  generalize w4.alloc (.cells #[.int .u8 49, .int .u8 50, .int .u8 51, .int .u8 52] 5 (4, 5)) = w5 at *
  have HI6 := Lib.hid (made_bytes w5 [53, 54, 55, 56, 57] 5 (5, 6) rfl)
  simp only [List.map_cons, List.map_nil] at HI6
  have HB6 := Lib.hid (show Below w5.heap.size w5 (w5.alloc (.cells #[.int .u8 53, .int .u8 54, .int .u8 55, .int .u8 56, .int .u8 57] 5 (5, 6))) from (Below.refl _ _).alloc (Nat.le_refl _) _)
  have hs6 : (w5.alloc (.cells #[.int .u8 53, .int .u8 54, .int .u8 55, .int .u8 56, .int .u8 57] 5 (5, 6))).heap.size = w4.heap.size + 1 + 1 := by simp [hs5]
  generalize w5.alloc (.cells #[.int .u8 53, .int .u8 54, .int .u8 55, .int .u8 56, .int .u8 57] 5 (5, 6)) = w6 at *
  rw [← hs6, ← hs5]
  generalize hw7 : w6.alloc (.cells #[.slice (some ⟨w4.heap.size, 0, none⟩) 4 4, .slice (some ⟨w5.heap.size, 0, none⟩) 5 5] 22) = w7
  have HB7 := Lib.hid (show Below w6.heap.size w6 w7 by rw [← hw7]; exact (Below.refl _ _).alloc (Nat.le_refl _) _)
  have HC0 := Lib.hid (show w7.cell? ⟨w6.heap.size, 0, none⟩ = some (.slice (some ⟨w4.heap.size, 0, none⟩) 4 4) by rw [← hw7, World.cell?_alloc_at _ _ _ _ rfl]; rfl)
  have HC1 := Lib.hid (show w7.cell? ⟨w6.heap.size, 1, none⟩ = some (.slice (some ⟨w5.heap.size, 0, none⟩) 5 5) by rw [← hw7, World.cell?_alloc_at _ _ _ _ rfl]; rfl)
  clear hw7 hs5 hs6
  refine (parts_two _ _ ⟨some ⟨w4.heap.size, 0, none⟩, 4, 4, [49, 50, 51, 52]⟩ ⟨some ⟨w5.heap.size, 0, none⟩, 5, 5, [53, 54, 55, 56, 57]⟩ _ HC0.out HC1.out
    ⟨rfl, by simp, allB_of (xs := [49, 50, 51, 52]) (by decide), bytes_on (bytes_on HI5.out HB6.out) HB7.out⟩ ⟨rfl, by simp, allB_of (xs := [53, 54, 55, 56, 57]) (by decide), bytes_on HI6.out HB7.out⟩).mono ?_
  rintro e w8 ⟨rfl, rfl⟩
  rw [show ((sumB ([49, 50, 51, 52] ++ [53, 54, 55, 56, 57])).toNat : Int) = 3421780262 from sum_nine]
  go_wp2_with fail
  go_ret
  exact ⟨rfl, seqB HW1.out (seqB HB2.out (seqB HB3.out (seqB HB4.out (seqB HB5.out (seqB HB6.out HB7.out)))))⟩
end Go.Proofs.Ytbfbbfcfijgakaa

/-
  Contract: what the document's own When answers. Conditions: as each states.
-/
import Derived.Test.YtidklcjacejkaaaB4
namespace Go.Proofs.Ytidklcjacejkaaa
open Go.RowKit

/-- The least tick at which there are so many. -/
structure IsW (r u l t n x : Int) : Prop where
  low : t ≤ x
  top : x ≤ 1099511627776
  yes : n ≤ fillL r u l t x
  no : ∀ y, t ≤ y → y < x → fillL r u l t y < n
theorem fill_mono {r u l t : Int} (h : rightB r u l t = true) {y z : Int} (hy : t ≤ y) (hyz : y ≤ z) (hz : z ≤ 1099511627776) : fillL r u l t y ≤ fillL r u l t z := by
  obtain ⟨h1, h2, h3, h4, h5, h6⟩ := (rightB_iff r u l t).1 h
  unfold fillL lvl
  rw [near_of y (by omega) (by omega), near_of z (by omega) hz]
  have hm : r * (y - t) ≤ r * (z - t) := Int.mul_le_mul_of_nonneg_left (by omega) h1.1
  have hp : 0 ≤ r * (y - t) := Int.mul_nonneg h1.1 (by omega)
  have hp2 : 0 ≤ r * (z - t) := Int.mul_nonneg h1.1 (by omega)
  generalize r * (y - t) = a at *
  generalize r * (z - t) = b at *
  simp only [h, true_and]
  (repeat' split) <;> omega
theorem field2 (a b c d : Int) (w : World) : (Instr.field 23 (.agg #[.int .i64 a, .int .i64 b, .int .i64 c, .int .i64 d]) 2).run Try.prog w = .ok (.int .i64 c) w := by
  first
    | kernel_rfl
    | rfl
    | simp [Instr.field, go_sem]
set_option maxRecDepth 100000 in
set_option maxHeartbeats 8000000 in
theorem rwhen_yes {r u l t n x : Int} (h : rightB r u l t = true) (hx : IsW r u l t n x) (w : World) : Calls Try.prog 12 #[.agg #[.int .i64 r, .int .i64 u, .int .i64 l, .int .i64 t], .int .i64 n] w fun e w' => e = .returned (.tuple #[.int .i64 x, .bool true]) ∧ Below w.heap.size w w' := by
  have hr := (rightB_iff r u l t).1 h
  have ht0 := hr.2.2.2.1
  have HX := Lib.hid hx
  have HH := Lib.hid h
  have HTOP := Lib.hid (fun W => rtop_any W)
  have HRG := Lib.hid (fun W => show Calls Try.prog 15 #[.agg #[.int .i64 r, .int .i64 u, .int .i64 l, .int .i64 t]] W fun e w' => e = .returned (.bool true) ∧ Below W.heap.size W w' from by rw [← h]; exact rright_any r u l t W)
  have HFI := Lib.hid (fun m W => rfill_any r u l t m W)
  have hlt : decide (fillL r u l t 1099511627776 < n) = false := by
    have := fill_mono h hx.low hx.top (Int.le_refl _)
    have := hx.yes
    simp
    omega
  have HB0 := Lib.hid (show Below w.heap.size w (w.alloc (.cells #[.int .i64 r, .int .i64 u, .int .i64 l, .int .i64 t] 23)) from (Below.refl _ _).alloc (Nat.le_refl _) _)
  have HK0 := Lib.hid (heap_alloc_new w (.cells #[.int .i64 r, .int .i64 u, .int .i64 l, .int .i64 t] 23))
  have hfd := field2
  have hxl := hx.low
  have hxt := hx.top
  clear hx h hr
  go_enter Try.func12, Try.ntmps12
  go_wp2_with fail
  generalize w.alloc (.cells #[.int .i64 r, .int .i64 u, .int .i64 l, .int .i64 t] 23) = w1 at *
  refine (HTOP.out _).mono ?_
  rintro e w2 ⟨rfl, rfl⟩
  have x0 : w1.cell? ⟨w.heap.size, 0, none⟩ = some (.int .i64 r) := cell_of_row _ _ 0 _ _ _ HK0.out
  have x1 : w1.cell? ⟨w.heap.size, 1, none⟩ = some (.int .i64 u) := cell_of_row _ _ 1 _ _ _ HK0.out
  have x2 : w1.cell? ⟨w.heap.size, 2, none⟩ = some (.int .i64 l) := cell_of_row _ _ 2 _ _ _ HK0.out
  have x3 : w1.cell? ⟨w.heap.size, 3, none⟩ = some (.int .i64 t) := cell_of_row _ _ 3 _ _ _ HK0.out
  go_wp2_with fail
  refine (HRG.out _).mono ?_
  rintro e w3 ⟨rfl, hb⟩
  have HB3 := Lib.hid (seqB HB0.out hb)
  have HK3 := Lib.hid ((hb.block _ (blk_lt HK0.out)).trans HK0.out)
  clear hb x0 x1 x2 x3
  have x0 : w3.cell? ⟨w.heap.size, 0, none⟩ = some (.int .i64 r) := cell_of_row _ _ 0 _ _ _ HK3.out
  have x1 : w3.cell? ⟨w.heap.size, 1, none⟩ = some (.int .i64 u) := cell_of_row _ _ 1 _ _ _ HK3.out
  have x2 : w3.cell? ⟨w.heap.size, 2, none⟩ = some (.int .i64 l) := cell_of_row _ _ 2 _ _ _ HK3.out
  have x3 : w3.cell? ⟨w.heap.size, 3, none⟩ = some (.int .i64 t) := cell_of_row _ _ 3 _ _ _ HK3.out
  go_wp2_with fail
  refine (HFI.out _ _).mono ?_
  rintro e w4 ⟨rfl, hb⟩
  have HB4 := Lib.hid (seqB HB3.out hb)
  have HK4 := Lib.hid ((hb.block _ (blk_lt HK3.out)).trans HK3.out)
  clear hb x0 x1 x2 x3
  have x3 : w4.cell? ⟨w.heap.size, 3, none⟩ = some (.int .i64 t) := cell_of_row _ _ 3 _ _ _ HK4.out
  generalize fillT r u l t 1099511627776 = T0 at *
  generalize fillL r u l t 1099511627776 = L0 at *
  go_wp2_with fail
  clear x3 hlt
  go_loopw [7, 8] (fun a b wr => ∃ (lo hi : Int), a = .int .i64 lo ∧ b = .int .i64 hi ∧ (t ≤ lo ∧ lo ≤ x ∧ x ≤ hi ∧ hi ≤ 1099511627776) ∧ Hid (Below w4.heap.size w4 wr)) (fun a b _ => (intOf b - intOf a).toNat)
  case atStart => exact ⟨t, 1099511627776, rfl, rfl, ⟨by omega, by omega, by omega, by omega⟩, Lib.hid (Below.refl _ _)⟩
  case round =>
    obtain ⟨lo, hi, rfl, rfl, hlh, HW⟩ := hrel
    obtain ⟨hl1, hl2, hl3, hl4⟩ := hlh
    have HKR := Lib.hid ((HW.out.block _ (blk_lt HK4.out)).trans HK4.out)
    have x0 : wr.cell? ⟨w.heap.size, 0, none⟩ = some (.int .i64 r) := cell_of_row _ _ 0 _ _ _ HKR.out
    have x1 : wr.cell? ⟨w.heap.size, 1, none⟩ = some (.int .i64 u) := cell_of_row _ _ 1 _ _ _ HKR.out
    have x2 : wr.cell? ⟨w.heap.size, 2, none⟩ = some (.int .i64 l) := cell_of_row _ _ 2 _ _ _ HKR.out
    have x3 : wr.cell? ⟨w.heap.size, 3, none⟩ = some (.int .i64 t) := cell_of_row _ _ 3 _ _ _ HKR.out
    by_cases hc : lo < hi
    · have hw1 : IntKind.i64.wrap (hi - lo) = hi - lo := IntWalk.i64_in _ (by omega)
      go_wp2_with fail
      obtain ⟨M, hM⟩ : ∃ M, lo + (hi - lo) / 2 = M := ⟨_, rfl⟩
      have hM1 : lo ≤ M ∧ M < hi := by omega
      rw [hM]
      refine (HFI.out M _).mono ?_
      rintro e w5 ⟨rfl, hb⟩
      have HW5 := Lib.hid (seqB HW.out hb)
      have hge : x ≤ M → n ≤ fillL r u l t M := fun hx => by
        have := fill_mono HH.out HX.out.low hx (by omega)
        have := HX.out.yes
        omega
      have hlt : ¬ x ≤ M → fillL r u l t M < n := fun hx => HX.out.no M (by omega) (by omega)
      clear hb hM x0 x1 x2 x3 hw1
      generalize fillL r u l t M = L1 at *
      generalize fillT r u l t M = T1 at *
      by_cases hxM : x ≤ M
      · have hn : n ≤ L1 := hge hxM
        clear hge hlt
        go_wp2_with fail
        go_roundw
        case rel => exact ⟨lo, M, rfl, rfl, ⟨by omega, by omega, by omega, by omega⟩, HW5⟩
        case measure => simp [intOf]; omega
      · have hn : L1 < n := hlt hxM
        have hw2 : IntKind.i64.wrap (M + 1) = M + 1 := IntWalk.i64_in _ (by omega)
        clear hge hlt
        go_wp2_with fail
        go_roundw
        case rel => exact ⟨M + 1, hi, rfl, rfl, ⟨by omega, by omega, by omega, by omega⟩, HW5⟩
        case measure => simp [intOf]; omega
    · obtain rfl : lo = x := by omega
      go_wp2_with fail
      go_ret2
      exact ⟨rfl, seqB HB4.out HW.out⟩
set_option maxRecDepth 100000 in
set_option maxHeartbeats 8000000 in
theorem rwhen_no {r u l t n : Int} (h : rightB r u l t = true) (hx : fillL r u l t 1099511627776 < n) (w : World) : Calls Try.prog 12 #[.agg #[.int .i64 r, .int .i64 u, .int .i64 l, .int .i64 t], .int .i64 n] w fun e w' => e = .returned (.tuple #[.int .i64 0, .bool false]) ∧ Below w.heap.size w w' := by
  have hr := (rightB_iff r u l t).1 h
  have ht0 := hr.2.2.2.1
  have HH := Lib.hid h
  have HTOP := Lib.hid (fun W => rtop_any W)
  have HRG := Lib.hid (fun W => show Calls Try.prog 15 #[.agg #[.int .i64 r, .int .i64 u, .int .i64 l, .int .i64 t]] W fun e w' => e = .returned (.bool true) ∧ Below W.heap.size W w' from by rw [← h]; exact rright_any r u l t W)
  have HFI := Lib.hid (fun m W => rfill_any r u l t m W)
  have hlt : decide (fillL r u l t 1099511627776 < n) = true := by simpa using hx
  have HB0 := Lib.hid (show Below w.heap.size w (w.alloc (.cells #[.int .i64 r, .int .i64 u, .int .i64 l, .int .i64 t] 23)) from (Below.refl _ _).alloc (Nat.le_refl _) _)
  have HK0 := Lib.hid (heap_alloc_new w (.cells #[.int .i64 r, .int .i64 u, .int .i64 l, .int .i64 t] 23))
  have hfd := field2
  clear hx h hr
  go_enter Try.func12, Try.ntmps12
  go_wp2_with fail
  generalize w.alloc (.cells #[.int .i64 r, .int .i64 u, .int .i64 l, .int .i64 t] 23) = w1 at *
  refine (HTOP.out _).mono ?_
  rintro e w2 ⟨rfl, rfl⟩
  have x0 : w1.cell? ⟨w.heap.size, 0, none⟩ = some (.int .i64 r) := cell_of_row _ _ 0 _ _ _ HK0.out
  have x1 : w1.cell? ⟨w.heap.size, 1, none⟩ = some (.int .i64 u) := cell_of_row _ _ 1 _ _ _ HK0.out
  have x2 : w1.cell? ⟨w.heap.size, 2, none⟩ = some (.int .i64 l) := cell_of_row _ _ 2 _ _ _ HK0.out
  have x3 : w1.cell? ⟨w.heap.size, 3, none⟩ = some (.int .i64 t) := cell_of_row _ _ 3 _ _ _ HK0.out
  go_wp2_with fail
  refine (HRG.out _).mono ?_
  rintro e w3 ⟨rfl, hb⟩
  have HB3 := Lib.hid (seqB HB0.out hb)
  have HK3 := Lib.hid ((hb.block _ (blk_lt HK0.out)).trans HK0.out)
  clear hb x0 x1 x2 x3
  have x0 : w3.cell? ⟨w.heap.size, 0, none⟩ = some (.int .i64 r) := cell_of_row _ _ 0 _ _ _ HK3.out
  have x1 : w3.cell? ⟨w.heap.size, 1, none⟩ = some (.int .i64 u) := cell_of_row _ _ 1 _ _ _ HK3.out
  have x2 : w3.cell? ⟨w.heap.size, 2, none⟩ = some (.int .i64 l) := cell_of_row _ _ 2 _ _ _ HK3.out
  have x3 : w3.cell? ⟨w.heap.size, 3, none⟩ = some (.int .i64 t) := cell_of_row _ _ 3 _ _ _ HK3.out
  go_wp2_with fail
  refine (HFI.out _ _).mono ?_
  rintro e w4 ⟨rfl, hb⟩
  have HB4 := Lib.hid (seqB HB3.out hb)
  have HK4 := Lib.hid ((hb.block _ (blk_lt HK3.out)).trans HK3.out)
  clear hb x0 x1 x2 x3
  have x3 : w4.cell? ⟨w.heap.size, 3, none⟩ = some (.int .i64 t) := cell_of_row _ _ 3 _ _ _ HK4.out
  generalize fillT r u l t 1099511627776 = T0 at *
  generalize fillL r u l t 1099511627776 = L0 at *
  go_wp2_with fail
  go_ret2
  exact ⟨rfl, HB4.out⟩
set_option maxRecDepth 100000 in
set_option maxHeartbeats 8000000 in
theorem rwhen_bad {r u l t : Int} (h : rightB r u l t = false) (n : Int) (w : World) : Calls Try.prog 12 #[.agg #[.int .i64 r, .int .i64 u, .int .i64 l, .int .i64 t], .int .i64 n] w fun e w' => e = .returned (.tuple #[.int .i64 0, .bool false]) ∧ Below w.heap.size w w' := by
  have HTOP := Lib.hid (fun W => rtop_any W)
  have HRG := Lib.hid (fun W => show Calls Try.prog 15 #[.agg #[.int .i64 r, .int .i64 u, .int .i64 l, .int .i64 t]] W fun e w' => e = .returned (.bool false) ∧ Below W.heap.size W w' from by rw [← h]; exact rright_any r u l t W)
  have HB0 := Lib.hid (show Below w.heap.size w (w.alloc (.cells #[.int .i64 r, .int .i64 u, .int .i64 l, .int .i64 t] 23)) from (Below.refl _ _).alloc (Nat.le_refl _) _)
  have HK0 := Lib.hid (heap_alloc_new w (.cells #[.int .i64 r, .int .i64 u, .int .i64 l, .int .i64 t] 23))
  go_enter Try.func12, Try.ntmps12
  go_wp2_with fail
  generalize w.alloc (.cells #[.int .i64 r, .int .i64 u, .int .i64 l, .int .i64 t] 23) = w1 at *
  refine (HTOP.out _).mono ?_
  rintro e w2 ⟨rfl, rfl⟩
  have x0 : w1.cell? ⟨w.heap.size, 0, none⟩ = some (.int .i64 r) := cell_of_row _ _ 0 _ _ _ HK0.out
  have x1 : w1.cell? ⟨w.heap.size, 1, none⟩ = some (.int .i64 u) := cell_of_row _ _ 1 _ _ _ HK0.out
  have x2 : w1.cell? ⟨w.heap.size, 2, none⟩ = some (.int .i64 l) := cell_of_row _ _ 2 _ _ _ HK0.out
  have x3 : w1.cell? ⟨w.heap.size, 3, none⟩ = some (.int .i64 t) := cell_of_row _ _ 3 _ _ _ HK0.out
  go_wp2_with fail
  refine (HRG.out _).mono ?_
  rintro e w3 ⟨rfl, hb⟩
  have HB3 := Lib.hid (seqB HB0.out hb)
  clear hb x0 x1 x2 x3
  go_wp2_with fail
  go_ret2
  exact ⟨rfl, HB3.out⟩
end Go.Proofs.Ytidklcjacejkaaa

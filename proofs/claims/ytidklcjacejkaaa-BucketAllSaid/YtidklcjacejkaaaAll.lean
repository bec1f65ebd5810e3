/-
  The walk of chicanelaw08.BucketAll: it returns true, whatever bucket. Conditions: none.
-/
import Derived.Test.YtidklcjacejkaaaWhen
import Derived.Deep.RegionHeld
namespace Go.Proofs.Ytidklcjacejkaaa.bucketAll
open Go.RowKit

/-- What When answers: a tick, or none. -/
theorem when_any (r u l t n : Int) : ∃ x b, (∀ W, Calls Try.prog 11 #[.agg #[.int .i64 r, .int .i64 u, .int .i64 l, .int .i64 t], .int .i64 n] W fun e w' => e = .returned (.tuple #[.int .i64 x, .bool b]) ∧ Below W.heap.size W w') ∧
    ∀ W, Calls Try.prog 12 #[.agg #[.int .i64 r, .int .i64 u, .int .i64 l, .int .i64 t], .int .i64 n] W fun e w' => e = .returned (.tuple #[.int .i64 x, .bool b]) ∧ Below W.heap.size W w' := by
  cases h : rightB r u l t with
  | false => exact ⟨0, false, fun W => when_bb h n W, fun W => rwhen_bad h n W⟩
  | true =>
    by_cases hn : fillL r u l t 1099511627776 < n
    · exact ⟨0, false, fun W => when_b0 h hn W, fun W => rwhen_no h hn W⟩
    · obtain ⟨x, hx⟩ := when_ex (n := n) h (Int.not_lt.1 hn)
      exact ⟨x, true, fun W => when_b1 h hx W, fun W => rwhen_yes h hx W⟩
/-- What Take answers. -/
theorem take_any (r u l t now n : Int) : ∃ L T K, (∀ W, Calls Try.prog 9 #[.agg #[.int .i64 r, .int .i64 u, .int .i64 l, .int .i64 t], .int .i64 now, .int .i64 n] W fun e w' => e = .returned (.tuple #[.agg #[.int .i64 r, .int .i64 u, .int .i64 L, .int .i64 T], .int .i64 K]) ∧ Below W.heap.size W w') ∧
    ∀ W, Calls Try.prog 10 #[.agg #[.int .i64 r, .int .i64 u, .int .i64 l, .int .i64 t], .int .i64 now, .int .i64 n] W fun e w' => e = .returned (.tuple #[.agg #[.int .i64 r, .int .i64 u, .int .i64 L, .int .i64 T], .int .i64 K]) ∧ Below W.heap.size W w' := by
  cases h : rightB r u l t with
  | false => exact ⟨l, t, 0, fun W => take_b0 h now n W, fun W => rtake_no h now n W⟩
  | true => exact ⟨_, _, _, fun W => take_b1 h now n rfl rfl rfl rfl W, fun W => rtake_yes h now n rfl rfl rfl rfl W⟩
theorem start (w : World) (r u l t : Int) : Bx w ((w.alloc (.cells #[.int .i64 r, .int .i64 u, .int .i64 l, .int .i64 t] 23)).alloc (.cells #[.int .i64 r, .int .i64 u, .int .i64 l, .int .i64 t] 24)) w.heap.size r u l t 23 :=
  Bx.on (bx_new (Below.refl w.heap.size w) r u l t 23) ((Below.refl _ _).alloc (Nat.le_refl _) _)
set_option maxRecDepth 100000 in
set_option maxHeartbeats 16000000 in
theorem walk (r u l t now n : Int) (w : World) :
    Calls Try.prog 3 #[.agg #[.int .i64 r, .int .i64 u, .int .i64 l, .int .i64 t], .int .i64 now, .int .i64 n] w fun e w' => e = .returned (.bool true) ∧ Below w.heap.size w w' := by
  have HX := Lib.hid (bucketWhen.start w r u l t)
  have HY := Lib.hid (start w r u l t)
  obtain ⟨x, b, hw1, hw2⟩ := when_any r u l t n
  obtain ⟨L, T, K, ht1, ht2⟩ := take_any r u l t now n
  have HW1 := Lib.hid hw1
  have HW2 := Lib.hid hw2
  have HT1 := Lib.hid ht1
  have HT2 := Lib.hid ht2
  have HR1 := Lib.hid (fun W => right_b r u l t W)
  have HR2 := Lib.hid (fun W => rright_any r u l t W)
  have HF1 := Lib.hid (fun W => fill_b r u l t now W)
  have HF2 := Lib.hid (fun W => rfill_any r u l t now W)
  have HM1 := Lib.hid (fun W => most_b r u l t n W)
  have HM2 := Lib.hid (fun W => rmost_any r u l t n W)
  generalize rightB r u l t = rb at HR1 HR2
  generalize fillL r u l t now = fl at HF1 HF2
  generalize fillT r u l t now = ft at HF1 HF2
  generalize mostV r u l t n = mv at HM1 HM2
  clear hw1 hw2 ht1 ht2
  go_enter Try.func3, Try.ntmps3
  go_wp2_with fail
  generalize (w.alloc (.cells #[.int .i64 r, .int .i64 u, .int .i64 l, .int .i64 t] 23)).alloc (.cells #[.int .i64 r, .int .i64 u, .int .i64 l, .int .i64 t] 24) = w1 at *
  generalize w.heap.size + 1 = g1 at *
  obtain ⟨g0, hg0⟩ : ∃ g0, w.heap.size = g0 := ⟨_, rfl⟩
  rw [hg0] at HY ⊢
  refine (HT1.out _).mono ?_
  rintro e w2 ⟨rfl, hb⟩
  have HX2 := Lib.hid (HX.out.on hb)
  have HY2 := Lib.hid (HY.out.on hb)
  have hal := (Below.refl w2.heap.size w2).alloc (Nat.le_refl _) (.cells #[.int .i64 r, .int .i64 u, .int .i64 L, .int .i64 T] 24)
  have HC3 := Lib.hid (bx_new HX2.out.2.2 r u L T 24)
  have HX3 := Lib.hid (HX2.out.on hal)
  have HY3 := Lib.hid (HY2.out.on hal)
  obtain ⟨y0, y1, y2, y3⟩ := HY3.out.cells
  have hlt := blk_lt HY2.out.2.1
  clear hb hal HX HY HX2 HY2
  go_wp2_with fail
  clear y0 y1 y2 y3 hlt
  generalize w2.alloc (.cells #[.int .i64 r, .int .i64 u, .int .i64 L, .int .i64 T] 24) = w3 at *
  generalize w2.heap.size = gc at *
  refine (HT2.out _).mono ?_
  rintro e w4 ⟨rfl, hb⟩
  have HX4 := Lib.hid (HX3.out.on hb)
  have HY4 := Lib.hid (HY3.out.on hb)
  have HC4 := Lib.hid (HC3.out.on hb)
  have hal := (Below.refl w4.heap.size w4).alloc (Nat.le_refl _) (.cells #[.int .i64 r, .int .i64 u, .int .i64 L, .int .i64 T] 23)
  have HD5 := Lib.hid (bx_new HX4.out.2.2 r u L T 23)
  have HX5 := Lib.hid (HX4.out.on hal)
  have HY5 := Lib.hid (HY4.out.on hal)
  have HC5 := Lib.hid (HC4.out.on hal)
  obtain ⟨x0, x1, x2, x3⟩ := HX5.out.cells
  have hlt := blk_lt HX4.out.2.1
  clear hb hal HX3 HY3 HC3 HX4 HY4 HC4
  go_wp2_with fail
  clear x0 x1 x2 x3 hlt
  generalize w4.alloc (.cells #[.int .i64 r, .int .i64 u, .int .i64 L, .int .i64 T] 23) = w5 at *
  generalize w4.heap.size = gd at *
  refine (HW1.out _).mono ?_
  rintro e w6 ⟨rfl, hb⟩
  have HX6 := Lib.hid (HX5.out.on hb)
  have HY6 := Lib.hid (HY5.out.on hb)
  have HC6 := Lib.hid (HC5.out.on hb)
  have HD6 := Lib.hid (HD5.out.on hb)
  obtain ⟨y0, y1, y2, y3⟩ := HY6.out.cells
  clear hb HX5 HY5 HC5 HD5
  go_wp2_with fail
  refine (HW2.out _).mono ?_
  rintro e w7 ⟨rfl, hb⟩
  have HX7 := Lib.hid (HX6.out.on hb)
  have HY7 := Lib.hid (HY6.out.on hb)
  have HC7 := Lib.hid (HC6.out.on hb)
  have HD7 := Lib.hid (HD6.out.on hb)
  clear y0 y1 y2 y3 hb HX6 HY6 HC6 HD6
  have HCK := Lib.hid (show ∀ W, Below w7.heap.size w7 W → (W.cell? ⟨g1, 0, none⟩ = some (.int .i64 r) ∧ W.cell? ⟨g1, 1, none⟩ = some (.int .i64 u) ∧ W.cell? ⟨g1, 2, none⟩ = some (.int .i64 l) ∧ W.cell? ⟨g1, 3, none⟩ = some (.int .i64 t)) ∧ (W.cell? ⟨g0, 0, none⟩ = some (.int .i64 r) ∧ W.cell? ⟨g0, 1, none⟩ = some (.int .i64 u) ∧ W.cell? ⟨g0, 2, none⟩ = some (.int .i64 l) ∧ W.cell? ⟨g0, 3, none⟩ = some (.int .i64 t)) ∧ (W.cell? ⟨gc, 0, none⟩ = some (.int .i64 r) ∧ W.cell? ⟨gc, 1, none⟩ = some (.int .i64 u) ∧ W.cell? ⟨gc, 2, none⟩ = some (.int .i64 L) ∧ W.cell? ⟨gc, 3, none⟩ = some (.int .i64 T)) ∧ (W.cell? ⟨gd, 0, none⟩ = some (.int .i64 r) ∧ W.cell? ⟨gd, 1, none⟩ = some (.int .i64 u) ∧ W.cell? ⟨gd, 2, none⟩ = some (.int .i64 L) ∧ W.cell? ⟨gd, 3, none⟩ = some (.int .i64 T)) ∧ Below w7.heap.size w7 W from fun W hb => ⟨(HX7.out.on hb).cells, (HY7.out.on hb).cells, (HC7.out.on hb).cells, (HD7.out.on hb).cells, hb⟩)
  clear HT1 HT2 HW1 HW2
  go_wp2_with fail
  go_region_held (fun W => (W.cell? ⟨g1, 0, none⟩ = some (.int .i64 r) ∧ W.cell? ⟨g1, 1, none⟩ = some (.int .i64 u) ∧ W.cell? ⟨g1, 2, none⟩ = some (.int .i64 l) ∧ W.cell? ⟨g1, 3, none⟩ = some (.int .i64 t)) ∧ (W.cell? ⟨g0, 0, none⟩ = some (.int .i64 r) ∧ W.cell? ⟨g0, 1, none⟩ = some (.int .i64 u) ∧ W.cell? ⟨g0, 2, none⟩ = some (.int .i64 l) ∧ W.cell? ⟨g0, 3, none⟩ = some (.int .i64 t)) ∧ (W.cell? ⟨gc, 0, none⟩ = some (.int .i64 r) ∧ W.cell? ⟨gc, 1, none⟩ = some (.int .i64 u) ∧ W.cell? ⟨gc, 2, none⟩ = some (.int .i64 L) ∧ W.cell? ⟨gc, 3, none⟩ = some (.int .i64 T)) ∧ (W.cell? ⟨gd, 0, none⟩ = some (.int .i64 r) ∧ W.cell? ⟨gd, 1, none⟩ = some (.int .i64 u) ∧ W.cell? ⟨gd, 2, none⟩ = some (.int .i64 L) ∧ W.cell? ⟨gd, 3, none⟩ = some (.int .i64 T)) ∧ Below w7.heap.size w7 W)
    ((refine HCK.out _ ?_
      go_split_ands
      first
        | with_reducible exact (Below.refl _ _).drew
        | with_reducible assumption))
    (first
      | (go_at_call 13; go_split_ands; (with_reducible refine Calls.mono (alive_any _) ?_); rintro e w8 ⟨rfl, hb⟩; (have hb8 := seqB (by assumption) hb); clear hb)
      | (go_at_call 14; go_split_ands; (with_reducible refine Calls.mono (HR1.out _) ?_); rintro e w8 ⟨rfl, hb⟩; (have hb8 := seqB (by assumption) hb); clear hb)
      | (go_at_call 15; go_split_ands; (with_reducible refine Calls.mono (HR2.out _) ?_); rintro e w8 ⟨rfl, hb⟩; (have hb8 := seqB (by assumption) hb); clear hb)
      | (go_at_call 16; go_split_ands; (with_reducible refine Calls.mono (HF1.out _) ?_); rintro e w8 ⟨rfl, hb⟩; (have hb8 := seqB (by assumption) hb); clear hb)
      | (go_at_call 17; go_split_ands; (with_reducible refine Calls.mono (HF2.out _) ?_); rintro e w8 ⟨rfl, hb⟩; (have hb8 := seqB (by assumption) hb); clear hb)
      | (go_at_call 18; go_split_ands; (with_reducible refine Calls.mono (HM1.out _) ?_); rintro e w8 ⟨rfl, hb⟩; (have hb8 := seqB (by assumption) hb); clear hb)
      | (go_at_call 19; go_split_ands; (with_reducible refine Calls.mono (HM2.out _) ?_); rintro e w8 ⟨rfl, hb⟩; (have hb8 := seqB (by assumption) hb); (have HBE := Lib.hid hb8); clear hb))
  go_wp2_with fail
  go_ret
  exact ⟨rfl, seqB HX7.out.2.2 HBE.out⟩
end Go.Proofs.Ytidklcjacejkaaa.bucketAll

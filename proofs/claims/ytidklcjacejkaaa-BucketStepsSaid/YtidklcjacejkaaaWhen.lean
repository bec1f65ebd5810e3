/-
  The walk of chicanelaw08.BucketWhen: it returns true, whatever bucket. Conditions: none.
-/
import Derived.Test.YtidklcjacejkaaaV
namespace Go.Proofs.Ytidklcjacejkaaa.bucketWhen
open Go.RowKit

theorem fieldB (a b c d : Int) (w : World) : (Instr.field 24 (.agg #[.int .i64 a, .int .i64 b, .int .i64 c, .int .i64 d]) 2).run Try.prog w = .ok (.int .i64 c) w := by
  first
    | kernel_rfl
    | rfl
    | simp [Instr.field, go_sem]
theorem start (w : World) (r u l t : Int) : Bx w ((w.alloc (.cells #[.int .i64 r, .int .i64 u, .int .i64 l, .int .i64 t] 23)).alloc (.cells #[.int .i64 r, .int .i64 u, .int .i64 l, .int .i64 t] 24)) (w.heap.size + 1) r u l t 24 := by
  have h := bx_new ((Below.refl w.heap.size w).alloc (Nat.le_refl _) (.cells #[.int .i64 r, .int .i64 u, .int .i64 l, .int .i64 t] 23)) r u l t 24
  simpa using h
set_option maxRecDepth 100000 in
set_option maxHeartbeats 4000000 in
theorem bad (r u l t n : Int) (w : World) (h : rightB r u l t = false) :
    Calls Try.prog 6 #[.agg #[.int .i64 r, .int .i64 u, .int .i64 l, .int .i64 t], .int .i64 n] w fun e w' => e = .returned (.bool true) ∧ Below w.heap.size w w' := by
  have HX := Lib.hid (start w r u l t)
  have HW := Lib.hid (fun W => when_bb h n W)
  have HR := Lib.hid (fun W => right_b r u l t W)
  rw [h] at HR
  clear h
  go_enter Try.func6, Try.ntmps6
  go_wp2_with fail
  generalize (w.alloc (.cells #[.int .i64 r, .int .i64 u, .int .i64 l, .int .i64 t] 23)).alloc (.cells #[.int .i64 r, .int .i64 u, .int .i64 l, .int .i64 t] 24) = w1 at *
  refine (HW.out _).mono ?_
  rintro e w2 ⟨rfl, hb⟩
  have HX2 := Lib.hid (HX.out.on hb)
  clear hb HX
  go_wp2_with fail
  refine (alive_any _).mono ?_
  rintro e w3 ⟨rfl, hb⟩
  have HX3 := Lib.hid (HX2.out.on hb)
  obtain ⟨x0, x1, x2, x3⟩ := HX3.out.cells
  clear hb HX2
  go_wp2_with fail
  refine (HR.out _).mono ?_
  rintro e w4 ⟨rfl, hb⟩
  have HE := Lib.hid (HX3.out.on hb).2.2
  clear hb HX3
  go_wp2_with fail
  go_ret
  exact ⟨rfl, HE.out⟩
set_option maxRecDepth 100000 in
set_option maxHeartbeats 4000000 in
theorem none (r u l t n : Int) (w : World) (h : rightB r u l t = true) (hn : fillL r u l t 1099511627776 < n) :
    Calls Try.prog 6 #[.agg #[.int .i64 r, .int .i64 u, .int .i64 l, .int .i64 t], .int .i64 n] w fun e w' => e = .returned (.bool true) ∧ Below w.heap.size w w' := by
  have HX := Lib.hid (start w r u l t)
  have HW := Lib.hid (fun W => when_b0 h hn W)
  have HR := Lib.hid (fun W => right_b r u l t W)
  have HF := Lib.hid (fun W => fill_b r u l t 1099511627776 W)
  have hfd := fieldB
  rw [h] at HR
  generalize fillL r u l t 1099511627776 = L at *
  clear h
  go_enter Try.func6, Try.ntmps6
  go_wp2_with fail
  generalize (w.alloc (.cells #[.int .i64 r, .int .i64 u, .int .i64 l, .int .i64 t] 23)).alloc (.cells #[.int .i64 r, .int .i64 u, .int .i64 l, .int .i64 t] 24) = w1 at *
  refine (HW.out _).mono ?_
  rintro e w2 ⟨rfl, hb⟩
  have HX2 := Lib.hid (HX.out.on hb)
  clear hb HX
  go_wp2_with fail
  refine (alive_any _).mono ?_
  rintro e w3 ⟨rfl, hb⟩
  have HX3 := Lib.hid (HX2.out.on hb)
  obtain ⟨x0, x1, x2, x3⟩ := HX3.out.cells
  clear hb HX2
  go_wp2_with fail
  refine (HR.out _).mono ?_
  rintro e w4 ⟨rfl, hb⟩
  have HX4 := Lib.hid (HX3.out.on hb)
  clear x0 x1 x2 x3 hb HX3
  obtain ⟨x0, x1, x2, x3⟩ := HX4.out.cells
  go_wp2_with fail
  refine (HF.out _).mono ?_
  rintro e w5 ⟨rfl, hb⟩
  have HE := Lib.hid (HX4.out.on hb).2.2
  clear hb HX4
  go_wp2_with fail
  go_ret
  exact ⟨rfl, HE.out⟩
set_option maxRecDepth 100000 in
set_option maxHeartbeats 4000000 in
theorem some' (r u l t n x : Int) (w : World) (h : rightB r u l t = true) (hx : IsW r u l t n x) :
    Calls Try.prog 6 #[.agg #[.int .i64 r, .int .i64 u, .int .i64 l, .int .i64 t], .int .i64 n] w fun e w' => e = .returned (.bool true) ∧ Below w.heap.size w w' := by
  have HX := Lib.hid (start w r u l t)
  have HW := Lib.hid (fun W => when_b1 h hx W)
  have HR := Lib.hid (fun W => right_b r u l t W)
  have HF := Lib.hid (fun W => fill_b r u l t x W)
  have HG := Lib.hid (fun W => fill_b r u l t (x - 1) W)
  have hfd := fieldB
  have hr := (rightB_iff r u l t).1 h
  rw [h] at HR
  have h1 := hx.low
  have h2 := hx.yes
  have h3 := hx.top
  have h4 := hx.no (x - 1)
  have ht0 := hr.2.2.2.1.1
  have hw : IntKind.i64.wrap (x - 1) = x - 1 := IntWalk.i64_in _ (by omega)
  generalize fillL r u l t x = L at *
  generalize fillL r u l t (x - 1) = L1 at *
  clear h hx hr
  by_cases hxt : x = t
  · have d1 : (x == t) = true := by simpa using hxt
    clear h4 HG hw
    subst hxt
    go_enter Try.func6, Try.ntmps6
    go_wp2_with fail
    generalize (w.alloc (.cells #[.int .i64 r, .int .i64 u, .int .i64 l, .int .i64 x] 23)).alloc (.cells #[.int .i64 r, .int .i64 u, .int .i64 l, .int .i64 x] 24) = w1 at *
    refine (HW.out _).mono ?_
    rintro e w2 ⟨rfl, hb⟩
    have HX2 := Lib.hid (HX.out.on hb)
    clear hb HX
    go_wp2_with fail
    refine (alive_any _).mono ?_
    rintro e w3 ⟨rfl, hb⟩
    have HX3 := Lib.hid (HX2.out.on hb)
    obtain ⟨x0, x1, x2, x3⟩ := HX3.out.cells
    clear hb HX2
    go_wp2_with fail
    refine (HR.out _).mono ?_
    rintro e w4 ⟨rfl, hb⟩
    have HX4 := Lib.hid (HX3.out.on hb)
    clear x0 x1 x2 x3 hb HX3
    obtain ⟨x0, x1, x2, x3⟩ := HX4.out.cells
    go_wp2_with fail
    refine (HF.out _).mono ?_
    rintro e w5 ⟨rfl, hb⟩
    have HX5 := Lib.hid (HX4.out.on hb)
    clear x0 x1 x2 x3 hb HX4
    obtain ⟨x0, x1, x2, x3⟩ := HX5.out.cells
    have HE := Lib.hid HX5.out.2.2
    go_wp2_with fail
    go_ret
    exact ⟨rfl, HE.out⟩
  · have h5 := h4 (by omega) (by omega)
    have d1 : (x == t) = false := by simpa using hxt
    have d2 : decide (t ≤ x) = true := by simpa using h1
    clear h4
    go_enter Try.func6, Try.ntmps6
    go_wp2_with fail
    generalize (w.alloc (.cells #[.int .i64 r, .int .i64 u, .int .i64 l, .int .i64 t] 23)).alloc (.cells #[.int .i64 r, .int .i64 u, .int .i64 l, .int .i64 t] 24) = w1 at *
    refine (HW.out _).mono ?_
    rintro e w2 ⟨rfl, hb⟩
    have HX2 := Lib.hid (HX.out.on hb)
    clear hb HX
    go_wp2_with fail
    refine (alive_any _).mono ?_
    rintro e w3 ⟨rfl, hb⟩
    have HX3 := Lib.hid (HX2.out.on hb)
    obtain ⟨x0, x1, x2, x3⟩ := HX3.out.cells
    clear hb HX2
    go_wp2_with fail
    refine (HR.out _).mono ?_
    rintro e w4 ⟨rfl, hb⟩
    have HX4 := Lib.hid (HX3.out.on hb)
    clear x0 x1 x2 x3 hb HX3
    obtain ⟨x0, x1, x2, x3⟩ := HX4.out.cells
    go_wp2_with fail
    refine (HF.out _).mono ?_
    rintro e w5 ⟨rfl, hb⟩
    have HX5 := Lib.hid (HX4.out.on hb)
    clear x0 x1 x2 x3 hb HX4
    obtain ⟨x0, x1, x2, x3⟩ := HX5.out.cells
    go_wp2_with fail
    refine (HG.out _).mono ?_
    rintro e w6 ⟨rfl, hb⟩
    have HE := Lib.hid (HX5.out.on hb).2.2
    clear hb HX5
    go_wp2_with fail
    go_ret
    exact ⟨rfl, HE.out⟩
theorem walk (r u l t n : Int) (w : World) :
    Calls Try.prog 6 #[.agg #[.int .i64 r, .int .i64 u, .int .i64 l, .int .i64 t], .int .i64 n] w fun e w' => e = .returned (.bool true) ∧ Below w.heap.size w w' := by
  cases h : rightB r u l t with
  | false => exact bad r u l t n w h
  | true =>
    by_cases hn : fillL r u l t 1099511627776 < n
    · exact none r u l t n w h hn
    · obtain ⟨x, hx⟩ := when_ex (n := n) h (Int.not_lt.1 hn)
      exact some' r u l t n x w h hx
end Go.Proofs.Ytidklcjacejkaaa.bucketWhen

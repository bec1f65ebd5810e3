/-
  The walk of chicanelaw08.BucketTakes: it returns true, whatever bucket. Conditions: none.
-/
import Derived.Test.YtidklcjacejkaaaWhen
namespace Go.Proofs.Ytidklcjacejkaaa.bucketTakes
open Go.RowKit

set_option maxRecDepth 100000 in
set_option maxHeartbeats 4000000 in
theorem bad (r u l t now n : Int) (w : World) (h : rightB r u l t = false) :
    Calls Try.prog 7 #[.agg #[.int .i64 r, .int .i64 u, .int .i64 l, .int .i64 t], .int .i64 now, .int .i64 n] w fun e w' => e = .returned (.bool true) ∧ Below w.heap.size w w' := by
  have HX := Lib.hid (bucketWhen.start w r u l t)
  have HR := Lib.hid (fun W => right_b r u l t W)
  rw [h] at HR
  clear h
  go_enter Try.func7, Try.ntmps7
  go_wp2_with fail
  generalize (w.alloc (.cells #[.int .i64 r, .int .i64 u, .int .i64 l, .int .i64 t] 23)).alloc (.cells #[.int .i64 r, .int .i64 u, .int .i64 l, .int .i64 t] 24) = w1 at *
  refine (HR.out _).mono ?_
  rintro e w2 ⟨rfl, hb⟩
  have HX2 := Lib.hid (HX.out.on hb)
  clear hb HX
  go_wp2_with fail
  refine (alive_any _).mono ?_
  rintro e w3 ⟨rfl, hb⟩
  have HE := Lib.hid (HX2.out.on hb).2.2
  clear hb HX2
  go_wp2_with fail
  go_ret
  exact ⟨rfl, HE.out⟩
theorem bx_set2 {w0 w : World} {g : Nat} {r u l t : Int} {T : TypeId} (h : Bx w0 w g r u l t T) (c : Int) : Bx w0 (w.setCell ⟨g, 2, none⟩ (.int .i64 c)) g r u c t T :=
  ⟨h.1, (set_heap h.2.1 _).trans rfl, h.2.2.setCell (p := ⟨g, 2, none⟩) h.1 _⟩
set_option maxRecDepth 100000 in
set_option maxHeartbeats 8000000 in
theorem good (r u l t now n : Int) (w : World) (h : rightB r u l t = true) :
    Calls Try.prog 7 #[.agg #[.int .i64 r, .int .i64 u, .int .i64 l, .int .i64 t], .int .i64 now, .int .i64 n] w fun e w' => e = .returned (.bool true) ∧ Below w.heap.size w w' := by
  have HX := Lib.hid (bucketWhen.start w r u l t)
  have HR := Lib.hid (fun W => right_b r u l t W)
  rw [h] at HR
  obtain ⟨L, hL⟩ : ∃ L, fillL r u l t now = L := ⟨_, rfl⟩
  obtain ⟨T, hT⟩ : ∃ T, fillT r u l t now = T := ⟨_, rfl⟩
  have hfr := fill_right h now
  have hge := fillT_ge (now := now) h
  rw [hL, hT] at hfr
  rw [hT] at hge
  have hLr := (rightB_iff _ _ _ _).1 hfr
  obtain ⟨K, hK⟩ : ∃ K, takeB L n = K := ⟨_, rfl⟩
  have hkr := take_range (n := n) hLr.2.2.1.1
  rw [hK] at hkr
  obtain ⟨D, hD⟩ : ∃ D, L - K = D := ⟨_, rfl⟩
  have hDr : rightB r u D T = true := by rw [← hD]; exact less_right hfr hkr.1 hkr.2.1
  have hsame := fill_same (r := r) (u := u) (l := D) hge
  have hk0 : takeB D 0 = 0 := by
    have := (take_range (L := D) (n := 0) (by omega)).2.2.2.1 (Int.le_refl _)
    exact this
  have HF := Lib.hid (fun W => fill_b r u l t now W)
  rw [hL, hT] at HF
  have HT := Lib.hid (fun W => take_b1 h now n hL hT hK hD W)
  have HT2 := Lib.hid (fun W => take_b1 hDr now 0 hsame.1 hsame.2 hk0 (Int.sub_zero D) W)
  have HR2 := Lib.hid (fun W => right_b r u D T W)
  rw [hDr] at HR2
  have hw : IntKind.i64.wrap (L - K) = D := by rw [hD]; exact IntWalk.i64_in _ (by omega)
  have hK0 : decide ((0 : Int) ≤ K) = true := by simpa using hkr.1
  have HN := Lib.hid hkr.2.2.2.2
  rw [hD] at HN
  clear h hL hT hfr hge hLr hK hkr hD hDr hsame hk0
  go_enter Try.func7, Try.ntmps7
  go_wp2_with fail
  generalize (w.alloc (.cells #[.int .i64 r, .int .i64 u, .int .i64 l, .int .i64 t] 23)).alloc (.cells #[.int .i64 r, .int .i64 u, .int .i64 l, .int .i64 t] 24) = w1 at *
  generalize w.heap.size + 1 = g1 at *
  refine (HR.out _).mono ?_
  rintro e w2 ⟨rfl, hb⟩
  have HX2 := Lib.hid (HX.out.on hb)
  obtain ⟨x0, x1, x2, x3⟩ := HX2.out.cells
  clear hb HX
  go_wp2_with fail
  refine (HF.out _).mono ?_
  rintro e w3 ⟨rfl, hb⟩
  have HX3 := Lib.hid (HX2.out.on hb)
  clear x0 x1 x2 x3
  have HY4 := Lib.hid (bx_new HX3.out.2.2 r u L T 24)
  have HX4 := Lib.hid (HX3.out.on ((Below.refl _ _).alloc (Nat.le_refl _) (.cells #[.int .i64 r, .int .i64 u, .int .i64 L, .int .i64 T] 24)))
  obtain ⟨x0, x1, x2, x3⟩ := HX4.out.cells
  have hlt12 := blk_lt HX3.out.2.1
  clear hb HX2 HX3
  go_wp2_with fail
  generalize w3.alloc (.cells #[.int .i64 r, .int .i64 u, .int .i64 L, .int .i64 T] 24) = w4 at *
  generalize w3.heap.size = g2 at *
  refine (HT.out _).mono ?_
  rintro e w5 ⟨rfl, hb⟩
  have HX5 := Lib.hid (HX4.out.on hb)
  have HY5 := Lib.hid (HY4.out.on hb)
  clear x0 x1 x2 x3
  have hal := (Below.refl w5.heap.size w5).alloc (Nat.le_refl _) (.cells #[.int .i64 r, .int .i64 u, .int .i64 D, .int .i64 T] 24)
  have HZ6 := Lib.hid (bx_new HX5.out.2.2 r u D T 24)
  have HX6 := Lib.hid (HX5.out.on hal)
  have HY6 := Lib.hid (HY5.out.on hal)
  have hlt23 := blk_lt HY5.out.2.1
  obtain ⟨y0, y1, y2, y3⟩ := HY6.out.cells
  have fy := HY6.out.frozen 2
  have HYS := Lib.hid (bx_set2 HY5.out D)
  clear hb hal HX4 HY4 HX5 HY5
  obtain ⟨z0, z1, z2, z3⟩ := HZ6.out.cells
  have hne : g2 ≠ w5.heap.size := Nat.ne_of_lt hlt23
  have hne' : w5.heap.size ≠ g2 := hne.symm
  have hsz : (w5.setCell ⟨g2, 2, none⟩ (.int .i64 D)).heap.size = w5.heap.size := by simp [World.setCell]
  have hz7 := bx_new HYS.out.2.2 r u D T 24
  rw [hsz] at hz7
  have HY7 := Lib.hid (HYS.out.on ((Below.refl (w5.setCell ⟨g2, 2, none⟩ (.int .i64 D)).heap.size (w5.setCell ⟨g2, 2, none⟩ (.int .i64 D))).alloc (Nat.le_refl _) (.cells #[.int .i64 r, .int .i64 u, .int .i64 D, .int .i64 T] 24)))
  have HZ7 := Lib.hid hz7
  clear HX6 HY6 HZ6 HYS hsz hz7
  go_wp2_with fail
  clear y0 y1 y2 y3 z0 z1 z2 z3 fy
  generalize (w5.setCell ⟨g2, 2, none⟩ (.int .i64 D)).alloc (.cells #[.int .i64 r, .int .i64 u, .int .i64 D, .int .i64 T] 24) = w7 at *
  generalize w5.heap.size = g3 at *
  refine (HT2.out _).mono ?_
  rintro e w8 ⟨rfl, hb⟩
  have HY8 := Lib.hid (HY7.out.on hb)
  have HZ8 := Lib.hid (HZ7.out.on hb)
  have hal := (Below.refl w8.heap.size w8).alloc (Nat.le_refl _) (.cells #[.int .i64 r, .int .i64 u, .int .i64 D, .int .i64 T] 24)
  have HV9 := Lib.hid (bx_new HY8.out.2.2 r u D T 24)
  have HY9 := Lib.hid (HY8.out.on hal)
  have HZ9 := Lib.hid (HZ8.out.on hal)
  clear hb hal HY7 HZ7 HY8 HZ8
  go_wp2_with fail
  generalize w8.alloc (.cells #[.int .i64 r, .int .i64 u, .int .i64 D, .int .i64 T] 24) = w9 at *
  generalize w8.heap.size = g4 at *
  refine (alive_any _).mono ?_
  rintro e wa ⟨rfl, hb⟩
  have HYa := Lib.hid (HY9.out.on hb)
  have HZa := Lib.hid (HZ9.out.on hb)
  have HVa := Lib.hid (HV9.out.on hb)
  obtain ⟨y0, y1, y2, y3⟩ := HYa.out.cells
  obtain ⟨z0, z1, z2, z3⟩ := HZa.out.cells
  clear hb HY9 HZ9 HV9 HYa
  go_wp2_with fail
  refine (HR2.out _).mono ?_
  rintro e wb ⟨rfl, hb⟩
  have HZb := Lib.hid (HZa.out.on hb)
  have HVb := Lib.hid (HVa.out.on hb)
  clear y0 y1 y2 y3 z0 z1 z2 z3 hb HZa HVa
  obtain ⟨z0, z1, z2, z3⟩ := HZb.out.cells
  obtain ⟨v0, v1, v2, v3⟩ := HVb.out.cells
  have HE := Lib.hid HVb.out.2.2
  by_cases hn0 : n ≤ 0
  · have d1 : decide (n ≤ 0) = true := by simpa using hn0
    go_wp2_with fail
    go_ret
    exact ⟨rfl, HE.out⟩
  · have d1 : decide (n ≤ 0) = false := by simpa using hn0
    by_cases hkn : K = n
    · have d2 : (K == n) = true := by simpa using hkn
      go_wp2_with fail
      go_ret
      exact ⟨rfl, HE.out⟩
    · have d2 : (K == n) = false := by simpa using hkn
      have d3 : (D == 0) = true := by
        have h := HN.out
        simp
        omega
      go_wp2_with fail
      go_ret
      exact ⟨rfl, HE.out⟩
theorem walk (r u l t now n : Int) (w : World) :
    Calls Try.prog 7 #[.agg #[.int .i64 r, .int .i64 u, .int .i64 l, .int .i64 t], .int .i64 now, .int .i64 n] w fun e w' => e = .returned (.bool true) ∧ Below w.heap.size w w' := by
  cases h : rightB r u l t with
  | false => exact bad r u l t now n w h
  | true => exact good r u l t now n w h
end Go.Proofs.Ytidklcjacejkaaa.bucketTakes

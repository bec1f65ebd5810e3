/-
  The walk of chicanelaw03.CrcSums: it returns true, whatever bytes. Conditions: as each states.
-/
import Derived.Test.YtbfbbfcfijgakaaW7
import Derived.Deep.RegionHeld3
namespace Go.Proofs.Ytbfbbfcfijgakaa.crcSums
open Go.RowKit

theorem sum_is (P : Int) (p : Option Addr) (n c : Nat) (xs : List Int) (w : World) (hP : ((sumB xs).toNat : Int) = P) (hx : xs.length = n) (hm : n ≤ 9223372036854775807) (hb : AllB xs) (hi : Lib.BytesIn w p n xs) :
    Calls Try.prog 12 #[.slice p n c] w fun e w' => e = .returned (.int .u32 P) ∧ w = w' := by
  rw [← hP]
  exact sum_any p n c xs w hx hm hb hi
theorem sum_nil (P : Int) (w : World) (hP : ((sumB []).toNat : Int) = P) : Calls Try.prog 12 #[.slice none 0 0] w fun e w' => e = .returned (.int .u32 P) ∧ w = w' :=
  sum_is P none 0 0 [] w hP rfl (by omega) (fun x hx => by cases hx) (Lib.BytesIn.nil _ _ _)
theorem more_is (P Q : Int) (p : Option Addr) (n c : Nat) (xs ys : List Int) (w : World) (hP : ((sumB xs).toNat : Int) = P) (hQ : ((sumB (xs ++ ys)).toNat : Int) = Q) (hx : ys.length = n) (hm : n ≤ 9223372036854775807) (hb : AllB ys) (hi : Lib.BytesIn w p n ys) :
    Calls Try.prog 13 #[.int .u32 P, .slice p n c] w fun e w' => e = .returned (.int .u32 Q) ∧ w = w' := by
  rw [← hP, ← hQ]
  have h := more_any (sumB xs) p n c ys w hx hm hb hi
  rw [show moreB (sumB xs) ys = sumB (xs ++ ys) from moreB_append 0#32 xs ys] at h
  exact h
theorem rsum_is (P : Int) (A : ByteArray) (xs : List Int) (w : World) (hA : A = strOfNums xs) (hP : ((sumB xs).toNat : Int) = P) (hb : AllB xs) (hs : xs.length ≤ 5000) :
    Calls Try.prog 11 #[.string A] w fun e w' => e = .returned (.int .u32 P) ∧ Below w.heap.size w w' := by
  rw [← hP, hA]
  exact rsum_str xs hb hs w
theorem parts2_at (P : Int) (g : Nat) (p q : Option Addr) (n c m d : Nat) (xs ys : List Int) (w : World) (hg : g = w.heap.size) (hP : ((sumB (xs ++ ys)).toNat : Int) = P) (hx : xs.length = n) (hm : n ≤ 9223372036854775807) (hb : AllB xs) (hy : ys.length = m) (hm' : m ≤ 9223372036854775807) (hb' : AllB ys)
    (hi : Lib.BytesIn (w.alloc (.cells #[.slice p n c, .slice q m d] 22)) p n xs) (hi' : Lib.BytesIn (w.alloc (.cells #[.slice p n c, .slice q m d] 22)) q m ys) :
    Calls Try.prog 14 #[.slice (some ⟨g, 0, none⟩) 2 2] (w.alloc (.cells #[.slice p n c, .slice q m d] 22)) fun e w' => e = .returned (.int .u32 P) ∧ w.alloc (.cells #[.slice p n c, .slice q m d] 22) = w' := by
  rw [← hP]
  subst hg
  exact parts_two w.heap.size 2 ⟨p, n, c, xs⟩ ⟨q, m, d, ys⟩ _ (by rw [World.cell?_alloc_at _ _ _ _ rfl]; rfl) (by rw [World.cell?_alloc_at _ _ _ _ rfl]; rfl) ⟨hx, hm, hb, hi⟩ ⟨hy, hm', hb', hi'⟩
theorem parts3_at (P : Int) (g : Nat) (p q : Option Addr) (n c m d : Nat) (xs ys : List Int) (w : World) (hg : g = w.heap.size) (hP : ((sumB (xs ++ ys)).toNat : Int) = P) (hx : xs.length = n) (hm : n ≤ 9223372036854775807) (hb : AllB xs) (hy : ys.length = m) (hm' : m ≤ 9223372036854775807) (hb' : AllB ys)
    (hi : Lib.BytesIn (w.alloc (.cells #[.slice p n c, .slice none 0 0, .slice q m d] 22)) p n xs) (hi' : Lib.BytesIn (w.alloc (.cells #[.slice p n c, .slice none 0 0, .slice q m d] 22)) q m ys) :
    Calls Try.prog 14 #[.slice (some ⟨g, 0, none⟩) 3 3] (w.alloc (.cells #[.slice p n c, .slice none 0 0, .slice q m d] 22)) fun e w' => e = .returned (.int .u32 P) ∧ w.alloc (.cells #[.slice p n c, .slice none 0 0, .slice q m d] 22) = w' := by
  rw [← hP]
  subst hg
  exact parts_three w.heap.size 3 ⟨p, n, c, xs⟩ ⟨none, 0, 0, []⟩ ⟨q, m, d, ys⟩ _ (by rw [World.cell?_alloc_at _ _ _ _ rfl]; rfl) (by rw [World.cell?_alloc_at _ _ _ _ rfl]; rfl) (by rw [World.cell?_alloc_at _ _ _ _ rfl]; rfl) ⟨hx, hm, hb, hi⟩ ⟨rfl, by simp, (fun x hx => by cases hx), Lib.BytesIn.nil _ _ _⟩ ⟨hy, hm', hb', hi'⟩
theorem parts0_is (P : Int) (w : World) (hP : ((sumB []).toNat : Int) = P) : Calls Try.prog 14 #[.slice none 0 0] w fun e w' => e = .returned (.int .u32 P) ∧ w = w' := by
  rw [← hP]
  exact parts_none w

theorem size_alloc1 (w : World) (o : Obj) : w.heap.size + 1 = (w.alloc o).heap.size := by simp
theorem seqB2 {w w1 w2 : World} (h2 : Below w1.heap.size w1 w2) (h1 : Below w.heap.size w w1) : Below w.heap.size w w2 := seqB h1 h2
theorem below_alloc {w w1 : World} (h : Below w.heap.size w w1) (o : Obj) : Below w.heap.size w (w1.alloc o) := h.alloc h.size o

set_option maxHeartbeats 2000000 in
theorem walk_long (p q : Option Addr) (n c m d : Nat) (hn : n ≤ 140737488355328) (hm : m ≤ 140737488355328) (h : 2000 < n + m) (w : World) :
    Calls Try.prog 3 #[.slice p n c, .slice q m d] w fun e w' => e = .returned (.bool true) ∧ Below w.heap.size w w' := by
  have d1 : decide ((2000 : Int) < (n : Int) + (m : Int)) = true := by simp; omega
  go_enter Try.func3, Try.ntmps3
  go_wp2_with fail
  refine (alive_any _).mono ?_
  rintro e w5 ⟨rfl, hb5⟩
  have HB5 := Lib.hid hb5
  clear hb5
  go_wp2_with fail
  go_ret
  exact ⟨rfl, HB5.out⟩

set_option maxHeartbeats 8000000 in
theorem walk_main (p q : Option Addr) (n c m d : Nat) (xs ys : List Int) (w : World) (hx : xs.length = n) (hb : AllB xs) (hi : Lib.BytesIn w p n xs) (hy : ys.length = m) (hb' : AllB ys) (hj : Lib.BytesIn w q m ys) (hn : n + m ≤ 2000) :
    Calls Try.prog 3 #[.slice p n c, .slice q m d] w fun e w' => e = .returned (.bool true) ∧ Below w.heap.size w w' := by
  have HX := Lib.hid hx
  have HA := Lib.hid hb
  have HI := Lib.hid hi
  have HY := Lib.hid hy
  have HA' := Lib.hid hb'
  have HJ := Lib.hid hj
  have HN5 := Lib.hid (show xs.length ≤ 5000 by omega)
  have HM5 := Lib.hid (show (xs ++ ys).length ≤ 5000 by simp; omega)
  have HAB := Lib.hid (show AllB (xs ++ ys) from fun x hx => by
    rcases List.mem_append.mp hx with h | h
    · exact hb x h
    · exact hb' x h)
  have hn63 : n ≤ 9223372036854775807 := by omega
  have hm63 : m ≤ 9223372036854775807 := by omega
  have d1 : decide ((2000 : Int) < (n : Int) + (m : Int)) = false := by simp; omega
  obtain ⟨PA, HPA⟩ : ∃ PA : Int, Hid (((sumB xs).toNat : Int) = PA) := ⟨_, Lib.hid rfl⟩
  obtain ⟨PW, HPW⟩ : ∃ PW : Int, Hid (((sumB (xs ++ ys)).toNat : Int) = PW) := ⟨_, Lib.hid rfl⟩
  obtain ⟨P0, HP0⟩ : ∃ P0 : Int, Hid (((sumB []).toNat : Int) = P0) := ⟨_, Lib.hid rfl⟩
  obtain ⟨A, HSA⟩ : ∃ A, Hid (A = strOfNums xs) := ⟨_, Lib.hid rfl⟩
  obtain ⟨B, HSB⟩ : ∃ B, Hid (B = strOfNums ys) := ⟨_, Lib.hid rfl⟩
  have s1 : A.size ≤ 5000 := by rw [HSA.out, strOfNums_size]; omega
  have s2 : B.size ≤ 5000 := by rw [HSB.out, strOfNums_size]; omega
  have HCV := Lib.hid (show ∀ (w' : World) (h : Below w.heap.size w w'), (convert 22 9 (.slice p n c)).run Try.prog w' = .ok (.string A) w' ∧ Below w.heap.size w w' from fun w' h => by
    rw [HSA.out]
    exact ⟨conv_bytes (bytes_on HI.out h) HX.out c, h⟩)
  have cv0 := (HCV.out w (Below.refl _ _)).1
  have cv1 : (convert 22 9 (.slice q m d)).run Try.prog w = .ok (.string B) w := by
    rw [HSB.out]
    exact conv_bytes HJ.out HY.out d
  clear hx hb hi hy hb' hj
  go_enter Try.func3, Try.ntmps3
  go_wp2_with fail
  clear cv0 cv1
  refine (rsum_is PW (A ++ B) (xs ++ ys) _ (by rw [HSA.out, HSB.out, str_append]) HPW.out HAB.out HM5.out).mono ?_
  rintro e w1 ⟨rfl, hb1⟩
  go_wp2_with fail
  go_region_held3 (fun w' => (convert 22 9 (.slice p n c)).run Try.prog w' = .ok (.string A) w' ∧ Below w.heap.size w w')
    ((refine HCV.out _ ?_
      go_split_ands
      first
        | with_reducible assumption
        | with_reducible exact Below.drew (by assumption)
        | with_reducible exact seqB2 (by assumption) (by assumption)
        | with_reducible exact below_alloc (by assumption) _))
    (first
      | (go_at_call 10; refine (alive_any _).mono ?_; rintro e w' ⟨rfl, hb'⟩)
      | (go_at_call 11; refine (rsum_is PA A xs _ HSA.out HPA.out HA.out HN5.out).mono ?_; rintro e w' ⟨rfl, hb'⟩)
      | (go_at_call 12; go_split_ands; (with_reducible refine Calls.mono (sum_is PA p n c xs _ HPA.out HX.out hn63 HA.out (bytes_on HI.out (by assumption))) ?_); rintro e w' ⟨rfl, rfl⟩)
      | (go_at_call 12; (with_reducible refine Calls.mono (sum_nil P0 _ HP0.out) ?_); rintro e w' ⟨rfl, rfl⟩)
      | (go_at_call 13; go_split_ands; (with_reducible refine Calls.mono (more_is PA PW q m d xs ys _ HPA.out HPW.out HY.out hm63 HA'.out (bytes_on HJ.out (by assumption))) ?_); rintro e w' ⟨rfl, rfl⟩)
      | (go_at_call 14; (with_reducible refine Calls.mono (parts0_is P0 _ HP0.out) ?_); rintro e w' ⟨rfl, rfl⟩)
      | (go_at_call 14; go_split_ands; (with_reducible refine Calls.mono (parts3_at PW _ p q n c m d xs ys _ (size_alloc1 _ _) HPW.out HX.out hn63 HA.out HY.out hm63 HA'.out (bytes_on HI.out (by assumption)) (bytes_on HJ.out (by assumption))) ?_); rintro e w' ⟨rfl, rfl⟩)
      | (go_at_call 14; go_split_ands; (with_reducible refine Calls.mono (parts2_at PW _ p q n c m d xs ys _ rfl HPW.out HX.out hn63 HA.out HY.out hm63 HA'.out (bytes_on HI.out (by assumption)) (bytes_on HJ.out (by assumption))) ?_); rintro e w' ⟨rfl, rfl⟩))
  go_split_ands
  go_wp2_with fail
  go_ret
  exact ⟨rfl, by assumption⟩

theorem walk (p q : Option Addr) (n c m d : Nat) (xs ys : List Int) (w : World) (hx : xs.length = n) (hb : AllB xs) (hi : Lib.BytesIn w p n xs) (hy : ys.length = m) (hb' : AllB ys) (hj : Lib.BytesIn w q m ys) (hn : n ≤ 140737488355328) (hm : m ≤ 140737488355328) :
    Calls Try.prog 3 #[.slice p n c, .slice q m d] w fun e w' => e = .returned (.bool true) ∧ Below w.heap.size w w' := by
  by_cases h : 2000 < n + m
  · exact walk_long p q n c m d hn hm h w
  · exact walk_main p q n c m d xs ys w hx hb hi hy hb' hj (by omega)
end Go.Proofs.Ytbfbbfcfijgakaa.crcSums

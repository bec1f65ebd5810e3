/-
  Contracts: what cargo's own nearest, end, due, Ready, Next, Last and Len answer. Conditions: as each states.
-/
import Derived.Test.YtmblgpejgdlakaaC
namespace Go.Proofs.Ytmblgpejgdlakaa
open Go.RowKit

set_option maxHeartbeats 400000 in
theorem tnear_any (n : Int) (w : World) : Calls Try.prog 44 #[.int .i64 n] w fun e w' => e = .returned (.int .i64 (near n)) ∧ w = w' := by
  go_enter Try.func44, Try.ntmps44
  go_wp2
  all_goals go_ret
  all_goals exact ⟨ret_int (by unfold near; (repeat' split at *) <;> omega), rfl⟩
set_option maxHeartbeats 400000 in
theorem tadd_any (a b : Int) (w : World) : Calls Try.prog 42 #[.int .i64 a, .int .i64 b] w fun e w' => e = .returned (.int .i64 (near (near a + near b))) ∧ w = w' := by
  have ha := near_range a
  have hb := near_range b
  go_enter Try.func42, Try.ntmps42
  go_wp2_with (go_at_call 44; refine (tnear_any _ _).mono ?_; rintro e w' ⟨rfl, rfl⟩)
  go_ret
  exact ⟨rfl, rfl⟩
set_option maxHeartbeats 400000 in
theorem cnear_any (a : Int) (w : World) : Calls Try.prog 36 #[.int .i64 a] w fun e w' => e = .returned (.int .i64 (near a)) ∧ w = w' := by
  have HE := Lib.hid (show near (near a + near 0) = near a by
    have h := near_range a
    rw [show near 0 = 0 from rfl, Int.add_zero]
    exact near_of _ h.1 h.2)
  go_enter Try.func36, Try.ntmps36
  go_wp2_with (go_at_call 42; refine (tadd_any _ _ _).mono ?_; rintro e w' ⟨rfl, rfl⟩)
  go_ret
  exact ⟨ret_int HE.out, rfl⟩
variable {w : World} {base g : Nat} {u : U} {S : ByteArray} {A : List Int} {last : Int} {M G : Nat} {ms : List Mk}
set_option maxHeartbeats 2000000 in
theorem end_raw (h : R w base g u S ms G last) (hb : G + S.size ≤ 2000000) :
    Calls Try.prog 38 #[.pointer (some ⟨g, 0, none⟩)] w fun e w' => e = .returned (.int .i64 ((G + S.size : Nat) : Int)) ∧ ∃ m, w' = w.drewN m := by
  obtain ⟨p, n, c, q, m, d, hr, rfl⟩ := h
  obtain ⟨g0, g1, g2, g3⟩ := hr.cells
  have hn := hr.sizes.1
  rw [← hn] at hb ⊢
  have HE := Lib.hid (Int.natCast_add G n)
  clear hr hn g1 g3
  go_enter Try.func38, Try.ntmps38
  go_wp2_with fail
  go_quiet (fail)
  go_wp2_with fail
  go_ret
  exact ⟨ret_int (by first | exact HE.out.symm | (rw [HE.out])), _, rfl⟩
set_option maxHeartbeats 2000000 in
theorem len_raw (h : R w base g u S ms G last) :
    Calls Try.prog 19 #[.pointer (some ⟨g, 0, none⟩)] w fun e w' => e = .returned (.int .i64 (S.size : Int)) ∧ w = w' := by
  obtain ⟨p, n, c, q, m, d, hr, rfl⟩ := h
  obtain ⟨g0, g1, g2, g3⟩ := hr.cells
  have hn := hr.sizes.1
  rw [← hn]
  clear hr hn g1 g2 g3
  go_enter Try.func19, Try.ntmps19
  go_wp2_with fail
  go_ret
  exact ⟨rfl, rfl⟩
set_option maxHeartbeats 2000000 in
theorem last_raw (h : R w base g u S ms G last) :
    Calls Try.prog 23 #[.pointer (some ⟨g, 0, none⟩)] w fun e w' => e = .returned (.int .i64 last) ∧ w = w' := by
  obtain ⟨p, n, c, q, m, d, hr, rfl⟩ := h
  obtain ⟨g0, g1, g2, g3⟩ := hr.cells
  clear hr g0 g1 g2
  go_enter Try.func23, Try.ntmps23
  go_wp2_with fail
  go_ret
  exact ⟨rfl, rfl⟩
set_option maxHeartbeats 2000000 in
theorem next_raw (h : R w base g u S ms G last) :
    Calls Try.prog 22 #[.pointer (some ⟨g, 0, none⟩)] w fun e w' => e = .returned (.tuple #[.int .i64 (ms.getD 0 noMk).1, .bool (decide (0 < ms.length))]) ∧ w = w' := by
  obtain ⟨p, n, c, q, m, d, hr, rfl⟩ := h
  obtain ⟨g0, g1, g2, g3⟩ := hr.cells
  obtain ⟨_, hm, _, hmd, _, hd⟩ := hr.sizes
  rw [← hm]
  by_cases h0 : 0 < m
  · obtain ⟨b, o, rfl, c0, c1⟩ := hr.mark h0
    generalize (ms.getD 0 noMk).1 = t at *
    simp only [Nat.zero_mul, Nat.add_zero] at c0
    have d0 : decide (0 < m) = true := by simpa using h0
    rw [d0]
    clear hr hm c1 g0 g2 g3 d0
    go_enter Try.func22, Try.ntmps22
    go_wp2_with fail
    go_ret2
    exact ⟨rfl, rfl⟩
  · obtain rfl : m = 0 := by omega
    have hms : ms = [] := List.eq_nil_of_length_eq_zero hm.symm
    subst hms
    clear hr hm g0 g2 g3
    go_enter Try.func22, Try.ntmps22
    go_wp2_with fail
    go_ret2
    exact ⟨rfl, rfl⟩
/-- The closure that due hands to Search. -/
def Ask (b1 b2 k : Nat) (f : Bool) (w : World) : Prop := Calls Try.prog 41 #[.int .i64 (k : Int), .pointer (some ⟨b1, 0, none⟩), .pointer (some ⟨b2, 0, none⟩)] w fun e w' => e = .returned (.bool f) ∧ ∃ m, w' = w.drewN m
set_option maxHeartbeats 2000000 in
theorem ask_any (w : World) (b1 b2 g : Nat) (q : Option Addr) (m d k : Nat) (x t : Int) (h1 : w.cell? ⟨b1, 0, none⟩ = some (.pointer (some ⟨g, 0, none⟩))) (h2 : w.cell? ⟨b2, 0, none⟩ = some (.int .i64 x)) (h3 : w.cell? ⟨g, 1, none⟩ = some (.slice q m d)) (hk : k < m)
    (b o : Nat) (hq : q = some ⟨b, o, none⟩) (h4 : w.cell? ⟨b, o + k * 2, none⟩ = some (.int .i64 t)) : Ask b1 b2 k (decide (x < t)) w := by
  subst hq
  unfold Ask
  go_enter Try.func41, Try.ntmps41
  go_wp2_with fail
  go_quiet (fail)
  go_wp2_with fail
  go_ret
  exact ⟨rfl, _, rfl⟩
set_option maxHeartbeats 2000000 in
theorem search_any (n N : Nat) (hN : N ≤ n) (hn : n ≤ 1000000) (b1 b2 : Nat) (w : World) (hf : ∀ m i, i < n → Ask b1 b2 i (decide (N ≤ i)) (w.drewN m)) :
    Calls Try.prog 40 #[.int .i64 (n : Int), .func (.func 41) #[] #[.pointer (some ⟨b1, 0, none⟩), .pointer (some ⟨b2, 0, none⟩)]] w fun e w' => e = .returned (.int .i64 (N : Int)) ∧ ∃ m, w' = w.drewN m := by
  have HF := Lib.hid hf
  clear hf
  go_enter Try.func40, Try.ntmps40
  go_wp2_with fail
  go_loopw [5, 6] (fun s5 s6 wr => ∃ (lo hi k : Nat), s5 = .int .i64 lo ∧ s6 = .int .i64 hi ∧ lo ≤ N ∧ N ≤ hi ∧ hi ≤ n ∧ wr = w.drewN k) (fun s5 s6 _ => (intOf s6).toNat - (intOf s5).toNat)
  case atStart => exact ⟨0, n, 0, rfl, rfl, by omega, hN, Nat.le_refl _, rfl⟩
  case round =>
    obtain ⟨lo, hi, k, rfl, rfl, h1, h2, h3, rfl⟩ := hrel
    by_cases hlt : lo < hi
    · have hc := HF.out k ((lo + hi) / 2) (by omega)
      unfold Ask at hc
      rw [show (((lo + hi) / 2 : Nat) : Int) = ((lo : Int) + (hi : Int)) / 2 by omega] at hc
      by_cases hm : N ≤ (lo + hi) / 2
      · rw [decide_eq_true hm] at hc
        have HC := Lib.hid hc
        have HM := Lib.hid hm
        clear hc hm
        go_wp2_with (go_at_call 41; refine HC.out.mono ?_; rintro e w' ⟨rfl, j, rfl⟩)
        go_roundw
        case rel => exact ⟨lo, (lo + hi) / 2, k + j, rfl, by rw [show ((lo : Int) + (hi : Int)) / 2 = (((lo + hi) / 2 : Nat) : Int) by omega], h1, HM.out, by omega, rfl⟩
        case measure => simp [intOf]; omega
      · rw [decide_eq_false hm] at hc
        have HC := Lib.hid hc
        have HM := Lib.hid hm
        clear hc hm
        go_wp2_with (go_at_call 41; refine HC.out.mono ?_; rintro e w' ⟨rfl, j, rfl⟩)
        go_roundw
        case rel => exact ⟨(lo + hi) / 2 + 1, hi, k + j, by rw [show ((lo : Int) + (hi : Int)) / 2 + 1 = (((lo + hi) / 2 + 1 : Nat) : Int) by omega], rfl, by have := HM.out; omega, h2, h3, rfl⟩
        case measure => simp [intOf]; omega
    · obtain rfl : lo = N := by omega
      go_wp2_with fail
      go_ret
      exact ⟨rfl, k, rfl⟩
end Go.Proofs.Ytmblgpejgdlakaa

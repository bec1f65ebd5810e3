/-
  Contracts: what cargo's own nearest, end, due, Ready, Next, Last and Len answer. Conditions: as each states.
  Contracts: what cargo's own due and Ready answer. Conditions: as each states.
-/
import Derived.Test.YtfdfgnmgpgkknaaMZ9
namespace Go.Proofs.Ytfdfgnmgpgkknaa.gc
open Go.RowKit

set_option maxHeartbeats 400000 in
theorem tnear_any (n : Int) (w : World) : Calls Try.prog 83 #[.int .i64 n] w fun e w' => e = .returned (.int .i64 (near n)) ∧ w = w' := by
  go_enter Try.func83, Try.ntmps83
  go_wp2
  all_goals go_ret
  all_goals exact ⟨ret_int (by unfold near; (repeat' split at *) <;> omega), rfl⟩
set_option maxHeartbeats 400000 in
theorem tadd_any (a b : Int) (w : World) : Calls Try.prog 63 #[.int .i64 a, .int .i64 b] w fun e w' => e = .returned (.int .i64 (near (near a + near b))) ∧ w = w' := by
  have ha := near_range a
  have hb := near_range b
  go_enter Try.func63, Try.ntmps63
  go_wp2_with (go_at_call 83; refine (tnear_any _ _).mono ?_; rintro e w' ⟨rfl, rfl⟩)
  go_ret
  exact ⟨rfl, rfl⟩
set_option maxHeartbeats 400000 in
theorem cnear_any (a : Int) (w : World) : Calls Try.prog 80 #[.int .i64 a] w fun e w' => e = .returned (.int .i64 (near a)) ∧ w = w' := by
  have HE := Lib.hid (show near (near a + near 0) = near a by
    have h := near_range a
    rw [show near 0 = 0 from rfl, Int.add_zero]
    exact near_of _ h.1 h.2)
  go_enter Try.func80, Try.ntmps80
  go_wp2_with (go_at_call 63; refine (tadd_any _ _ _).mono ?_; rintro e w' ⟨rfl, rfl⟩)
  go_ret
  exact ⟨ret_int HE.out, rfl⟩
variable {w : World} {base g : Nat} {u : U} {S : ByteArray} {A : List Int} {last : Int} {M G : Nat} {ms : List Mk}
set_option maxHeartbeats 2000000 in
theorem end_raw (h : R w base g u S ms G last) (hb : G + S.size ≤ 2000000) :
    Calls Try.prog 81 #[.pointer (some ⟨g, 0, none⟩)] w fun e w' => e = .returned (.int .i64 ((G + S.size : Nat) : Int)) ∧ ∃ m, w' = w.drewN m := by
  obtain ⟨p, n, c, q, m, d, hr, rfl⟩ := h
  obtain ⟨g0, g1, g2, g3⟩ := hr.cells
  have hn := hr.sizes.1
  rw [← hn] at hb ⊢
  have HE := Lib.hid (Int.natCast_add G n)
  clear hr hn g1 g3
  go_enter Try.func81, Try.ntmps81
  go_wp2_with fail
  go_quiet (fail)
  go_wp2_with fail
  go_ret
  exact ⟨ret_int (by first | exact HE.out.symm | (rw [HE.out])), _, rfl⟩
set_option maxHeartbeats 2000000 in
theorem len_raw (h : R w base g u S ms G last) :
    Calls Try.prog 45 #[.pointer (some ⟨g, 0, none⟩)] w fun e w' => e = .returned (.int .i64 (S.size : Int)) ∧ w = w' := by
  obtain ⟨p, n, c, q, m, d, hr, rfl⟩ := h
  obtain ⟨g0, g1, g2, g3⟩ := hr.cells
  have hn := hr.sizes.1
  rw [← hn]
  clear hr hn g1 g2 g3
  go_enter Try.func45, Try.ntmps45
  go_wp2_with fail
  go_ret
  exact ⟨rfl, rfl⟩
/-- The closure that due hands to Search. -/
def Ask (b1 b2 k : Nat) (f : Bool) (w : World) : Prop := Calls Try.prog 85 #[.int .i64 (k : Int), .pointer (some ⟨b1, 0, none⟩), .pointer (some ⟨b2, 0, none⟩)] w fun e w' => e = .returned (.bool f) ∧ ∃ m, w' = w.drewN m
set_option maxHeartbeats 2000000 in
theorem ask_any (w : World) (b1 b2 g : Nat) (q : Option Addr) (m d k : Nat) (x t : Int) (h1 : w.cell? ⟨b1, 0, none⟩ = some (.pointer (some ⟨g, 0, none⟩))) (h2 : w.cell? ⟨b2, 0, none⟩ = some (.int .i64 x)) (h3 : w.cell? ⟨g, 1, none⟩ = some (.slice q m d)) (hk : k < m)
    (b o : Nat) (hq : q = some ⟨b, o, none⟩) (h4 : w.cell? ⟨b, o + k * 2, none⟩ = some (.int .i64 t)) : Ask b1 b2 k (decide (x < t)) w := by
  subst hq
  unfold Ask
  go_enter Try.func85, Try.ntmps85
  go_wp2_with fail
  go_quiet (fail)
  go_wp2_with fail
  go_ret
  exact ⟨rfl, _, rfl⟩
set_option maxHeartbeats 2000000 in
theorem search_any (n N : Nat) (hN : N ≤ n) (hn : n ≤ 1000000) (b1 b2 : Nat) (w : World) (hf : ∀ m i, i < n → Ask b1 b2 i (decide (N ≤ i)) (w.drewN m)) :
    Calls Try.prog 84 #[.int .i64 (n : Int), .func (.func 85) #[] #[.pointer (some ⟨b1, 0, none⟩), .pointer (some ⟨b2, 0, none⟩)]] w fun e w' => e = .returned (.int .i64 (N : Int)) ∧ ∃ m, w' = w.drewN m := by
  have HF := Lib.hid hf
  clear hf
  go_enter Try.func84, Try.ntmps84
  go_wp2_with fail
  go_loopw [5, 6] (fun s5 s6 wr => ∃ (lo hi k : Nat), s5 = .int .i64 lo ∧ s6 = .int .i64 hi ∧ lo ≤ N ∧ N ≤ hi ∧ hi ≤ n ∧ wr = w.drewN k) (fun s5 s6 _ => (intOf s6).toNat - (intOf s5).toNat)
  case atStart => exact ⟨0, n, 0, rfl, rfl, by omega, hN, Nat.le_refl _, rfl⟩
  case round =>
    obtain ⟨lo, hi, k, rfl, rfl, h1, h2, h3, rfl⟩ := hrel
    by_cases hlt : lo < hi
    · have hc := HF.out k ((lo + hi) / 2) (by omega)
      unfold Ask at hc
      rw [show (((lo + hi) / 2 : Nat) : Int) = ((lo : Int) + (hi : Int)) / 2 by omega] at hc
      by_cases hm : N ≤ (lo + hi) / 2
      · rw [decide_eq_true hm] at hc
        have HC := Lib.hid hc
        have HM := Lib.hid hm
        clear hc hm
        go_wp2_with (go_at_call 85; refine HC.out.mono ?_; rintro e w' ⟨rfl, j, rfl⟩)
        go_roundw
        case rel => exact ⟨lo, (lo + hi) / 2, k + j, rfl, by rw [show ((lo : Int) + (hi : Int)) / 2 = (((lo + hi) / 2 : Nat) : Int) by omega], h1, HM.out, by omega, rfl⟩
        case measure => simp [intOf]; omega
      · rw [decide_eq_false hm] at hc
        have HC := Lib.hid hc
        have HM := Lib.hid hm
        clear hc hm
        go_wp2_with (go_at_call 85; refine HC.out.mono ?_; rintro e w' ⟨rfl, j, rfl⟩)
        go_roundw
        case rel => exact ⟨(lo + hi) / 2 + 1, hi, k + j, by rw [show ((lo : Int) + (hi : Int)) / 2 + 1 = (((lo + hi) / 2 + 1 : Nat) : Int) by omega], rfl, by have := HM.out; omega, h2, h3, rfl⟩
        case measure => simp [intOf]; omega
    · obtain rfl : lo = N := by omega
      go_wp2_with fail
      go_ret
      exact ⟨rfl, k, rfl⟩
end Go.Proofs.Ytfdfgnmgpgkknaa.gc
namespace Go.Proofs.Ytfdfgnmgpgkknaa.gc
open Go.RowKit

variable {w : World} {base g : Nat} {u : U} {S : ByteArray} {A : List Int} {last : Int} {M G : Nat} {ms : List Mk}
set_option maxHeartbeats 2000000 in
theorem due_raw (h : R w base g u S ms G last) (hr : Rise ms) (hm : ms.length ≤ 1000000) (x : Int) {N : Nat} (hN : readyN (ms.map Prod.fst) x = N) :
    Calls Try.prog 66 #[.pointer (some ⟨g, 0, none⟩), .int .i64 x] w fun e w' => e = .returned (.int .i64 (N : Int)) ∧ Below w.heap.size w w' := by
  obtain ⟨p, n, c, q, m, d, hw, rfl⟩ := h
  have hNm : N ≤ m := by
    have := ready_le (ms.map Prod.fst) x
    rw [List.length_map, ← hw.sizes.2.1, hN] at this
    exact this
  have hml : m ≤ 1000000 := by rw [hw.sizes.2.1]; exact hm
  have hb := below2 w (.cells #[.pointer (some ⟨g, 0, none⟩)] 68 (0, 0)) (.cells #[.int .i64 x] 3 (0, 0))
  have h2 := two_blocks (Below.refl _ ((w.alloc (.cells #[.pointer (some ⟨g, 0, none⟩)] 68 (0, 0))).alloc (.cells #[.int .i64 x] 3 (0, 0))))
  have hw2 := hw.on hb
  obtain ⟨_, k1, _, _⟩ := hw2.cells
  have k2 := cell_of_row _ w.heap.size 0 _ _ _ h2.1
  have k3 := cell_of_row _ (w.heap.size + 1) 0 _ _ _ h2.2.1
  have HS := Lib.hid (search_any m N hNm hml w.heap.size (w.heap.size + 1) ((w.alloc (.cells #[.pointer (some ⟨g, 0, none⟩)] 68 (0, 0))).alloc (.cells #[.int .i64 x] 3 (0, 0))) (fun j i hi => by
    obtain ⟨b, o, e, c0, _⟩ := (hw2.on (below_drewN _ j)).mark hi
    rw [← hN, ← rise_ready hr x i (by rw [← hw.sizes.2.1]; exact hi)]
    exact ask_any _ _ _ g q m d i x _ k2 k3 k1 hi b o e c0))
  have HB := Lib.hid hb
  have K1 : ((w.alloc (.cells #[.pointer (some ⟨g, 0, none⟩)] 68 (0, 0))).alloc (.cells #[.int .i64 x] 3 (0, 0))).cell? ⟨g, 1, none⟩ = some (.slice q m d) := k1
  have K2 : ((w.alloc (.cells #[.pointer (some ⟨g, 0, none⟩)] 68 (0, 0))).alloc (.cells #[.int .i64 x] 3 (0, 0))).cell? ⟨w.heap.size, 0, none⟩ = some (.pointer (some ⟨g, 0, none⟩)) := k2
  clear h2 hw2 k1 k2 k3 hw hr hm hN hNm hml hb
  go_enter Try.func66, Try.ntmps66
  go_wp2_with fail
  refine HS.out.mono ?_
  rintro e w' ⟨rfl, j, hj⟩
  have HE := Lib.hid (show Below w.heap.size w w' by rw [hj]; exact seqB HB.out (below_drewN _ j))
  clear hj HS
  go_wp2_with fail
  go_ret
  exact ⟨rfl, HE.out⟩
set_option maxHeartbeats 2000000 in
theorem ready_raw (h : R w base g u S ms G last) (hr : Rise ms) (hm : ms.length ≤ 1000000) {e0 : Nat} (he : EndsM G ms e0) (hb : e0 ≤ 2000000) (x : Int) {N K : Nat} (hN : readyN (ms.map Prod.fst) x = N) (hK : endAt G ms N - G = K) :
    Calls Try.prog 51 #[.pointer (some ⟨g, 0, none⟩), .int .i64 x] w fun e w' => e = .returned (.int .i64 (K : Int)) ∧ Below w.heap.size w w' := by
  have HD := Lib.hid (due_raw h hr hm x hN)
  have hNm : N ≤ ms.length := by
    have := ready_le (ms.map Prod.fst) x
    rw [List.length_map, hN] at this
    exact this
  have hbd := end_bounds he N hNm
  have HH := Lib.hid h
  clear h hr hN
  cases N with
  | zero =>
    have hK0 : K = 0 := by
      have : endAt G ms 0 = G := rfl
      omega
    subst hK0
    clear hbd hK
    go_enter Try.func51, Try.ntmps51
    go_wp2_with fail
    refine HD.out.mono ?_
    rintro e w1 ⟨rfl, hb1⟩
    have HB := Lib.hid hb1
    clear hb1 HD
    go_wp2_with fail
    go_ret
    exact ⟨rfl, HB.out⟩
  | succ j =>
    have hE : (endAt G ms (j + 1) : Nat) = (ms.getD j noMk).2 := rfl
    rw [hE] at hK hbd
    have HM := Lib.hid hm
    obtain ⟨y, hy⟩ : ∃ y, (ms.getD j noMk).2 = y := ⟨_, rfl⟩
    rw [hy] at hK hbd
    have HY := Lib.hid hy
    have hyK : (y : Int) - (G : Int) = (K : Int) := by omega
    have HKK := Lib.hid hyK
    rw [Int.natCast_add, Int.natCast_one] at HD
    clear hE hy hK hm
    go_enter Try.func51, Try.ntmps51
    go_wp2_with fail
    refine HD.out.mono ?_
    rintro e w1 ⟨rfl, hb1⟩
    have HB := Lib.hid hb1
    obtain ⟨p, n, c, q, m, d, hw, _⟩ := HH.out.on hb1
    obtain ⟨_, g1, g2, _⟩ := hw.cells
    obtain ⟨_, hml, _, hmd, _, hd⟩ := hw.sizes
    have hjm : j < m := by omega
    obtain ⟨b, o, rfl, _, c1⟩ := hw.mark hjm
    rw [HY.out] at c1
    have hmM : m ≤ 1000000 := by rw [hml]; exact HM.out
    clear hb1 hw hml HD HH HY
    go_wp2_with fail
    go_quiet (fail)
    go_wp2_with fail
    go_ret
    exact ⟨ret_int (by first | exact HKK.out | rfl), seqB HB.out (below_drewN _ _)⟩
end Go.Proofs.Ytfdfgnmgpgkknaa.gc

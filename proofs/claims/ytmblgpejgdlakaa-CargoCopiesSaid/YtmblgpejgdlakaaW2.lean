/-
  Contracts: what cargo's own due and Ready answer. Conditions: as each states.
-/
import Derived.Test.YtmblgpejgdlakaaW1
namespace Go.Proofs.Ytmblgpejgdlakaa
open Go.RowKit

variable {w : World} {base g : Nat} {u : U} {S : ByteArray} {A : List Int} {last : Int} {M G : Nat} {ms : List Mk}
set_option maxHeartbeats 2000000 in
theorem due_raw (h : R w base g u S ms G last) (hr : Rise ms) (hm : ms.length ≤ 1000000) (x : Int) {N : Nat} (hN : readyN (ms.map Prod.fst) x = N) :
    Calls Try.prog 31 #[.pointer (some ⟨g, 0, none⟩), .int .i64 x] w fun e w' => e = .returned (.int .i64 (N : Int)) ∧ Below w.heap.size w w' := by
  obtain ⟨p, n, c, q, m, d, hw, rfl⟩ := h
  have hNm : N ≤ m := by
    have := ready_le (ms.map Prod.fst) x
    rw [List.length_map, ← hw.sizes.2.1, hN] at this
    exact this
  have hml : m ≤ 1000000 := by rw [hw.sizes.2.1]; exact hm
  have hb := below2 w (.cells #[.pointer (some ⟨g, 0, none⟩)] 23 (0, 0)) (.cells #[.int .i64 x] 3 (0, 0))
  have h2 := two_blocks (Below.refl _ ((w.alloc (.cells #[.pointer (some ⟨g, 0, none⟩)] 23 (0, 0))).alloc (.cells #[.int .i64 x] 3 (0, 0))))
  have hw2 := hw.on hb
  obtain ⟨_, k1, _, _⟩ := hw2.cells
  have k2 := cell_of_row _ w.heap.size 0 _ _ _ h2.1
  have k3 := cell_of_row _ (w.heap.size + 1) 0 _ _ _ h2.2.1
  have HS := Lib.hid (search_any m N hNm hml w.heap.size (w.heap.size + 1) ((w.alloc (.cells #[.pointer (some ⟨g, 0, none⟩)] 23 (0, 0))).alloc (.cells #[.int .i64 x] 3 (0, 0))) (fun j i hi => by
    obtain ⟨b, o, e, c0, _⟩ := (hw2.on (below_drewN _ j)).mark hi
    rw [← hN, ← rise_ready hr x i (by rw [← hw.sizes.2.1]; exact hi)]
    exact ask_any _ _ _ g q m d i x _ k2 k3 k1 hi b o e c0))
  have HB := Lib.hid hb
  have K1 : ((w.alloc (.cells #[.pointer (some ⟨g, 0, none⟩)] 23 (0, 0))).alloc (.cells #[.int .i64 x] 3 (0, 0))).cell? ⟨g, 1, none⟩ = some (.slice q m d) := k1
  have K2 : ((w.alloc (.cells #[.pointer (some ⟨g, 0, none⟩)] 23 (0, 0))).alloc (.cells #[.int .i64 x] 3 (0, 0))).cell? ⟨w.heap.size, 0, none⟩ = some (.pointer (some ⟨g, 0, none⟩)) := k2
  clear h2 hw2 k1 k2 k3 hw hr hm hN hNm hml hb
  go_enter Try.func31, Try.ntmps31
  go_wp2_with fail
  refine HS.out.mono ?_
  rintro e w' ⟨rfl, j, hj⟩
  have HE := Lib.hid (show Below w.heap.size w w' by rw [hj]; exact seqB HB.out (below_drewN _ j))
  clear hj HS
  go_wp2_with fail
  go_ret
  exact ⟨rfl, HE.out⟩
set_option maxHeartbeats 2000000 in
theorem ready_raw (h : R w base g u S ms G last) (hr : Rise ms) (hm : ms.length ≤ 1000000) {e0 : Nat} (he : EndsM G ms e0) (hb : e0 ≤ 2000000) (x : Int) {N K : Nat} (hN : readyN (ms.map Prod.fst) x = N) (hK : endAt G ms N - G = K) :
    Calls Try.prog 16 #[.pointer (some ⟨g, 0, none⟩), .int .i64 x] w fun e w' => e = .returned (.int .i64 (K : Int)) ∧ Below w.heap.size w w' := by
  have HD := Lib.hid (due_raw h hr hm x hN)
  have hNm : N ≤ ms.length := by
    have := ready_le (ms.map Prod.fst) x
    rw [List.length_map, hN] at this
    exact this
  have hbd := end_bounds he N hNm
  have HH := Lib.hid h
  clear h hr hN
  cases N with
  | zero =>
    have hK0 : K = 0 := by
      have : endAt G ms 0 = G := rfl
      omega
    subst hK0
    clear hbd hK
    go_enter Try.func16, Try.ntmps16
    go_wp2_with fail
    refine HD.out.mono ?_
    rintro e w1 ⟨rfl, hb1⟩
    have HB := Lib.hid hb1
    clear hb1 HD
    go_wp2_with fail
    go_ret
    exact ⟨rfl, HB.out⟩
  | succ j =>
    have hE : (endAt G ms (j + 1) : Nat) = (ms.getD j noMk).2 := rfl
    rw [hE] at hK hbd
    have HM := Lib.hid hm
    obtain ⟨y, hy⟩ : ∃ y, (ms.getD j noMk).2 = y := ⟨_, rfl⟩
    rw [hy] at hK hbd
    have HY := Lib.hid hy
    have hyK : (y : Int) - (G : Int) = (K : Int) := by omega
    have HKK := Lib.hid hyK
    rw [Int.natCast_add, Int.natCast_one] at HD
    clear hE hy hK hm
    go_enter Try.func16, Try.ntmps16
    go_wp2_with fail
    refine HD.out.mono ?_
    rintro e w1 ⟨rfl, hb1⟩
    have HB := Lib.hid hb1
    obtain ⟨p, n, c, q, m, d, hw, _⟩ := HH.out.on hb1
    obtain ⟨_, g1, g2, _⟩ := hw.cells
    obtain ⟨_, hml, _, hmd, _, hd⟩ := hw.sizes
    have hjm : j < m := by omega
    obtain ⟨b, o, rfl, _, c1⟩ := hw.mark hjm
    rw [HY.out] at c1
    have hmM : m ≤ 1000000 := by rw [hml]; exact HM.out
    clear hb1 hw hml HD HH HY
    go_wp2_with fail
    go_quiet (fail)
    go_wp2_with fail
    go_ret
    exact ⟨ret_int (by first | exact HKK.out | rfl), seqB HB.out (below_drewN _ _)⟩
end Go.Proofs.Ytmblgpejgdlakaa

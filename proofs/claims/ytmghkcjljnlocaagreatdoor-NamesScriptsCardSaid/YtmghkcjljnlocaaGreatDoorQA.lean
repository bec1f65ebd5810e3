/-
  Contract: few. Conditions: none.
-/
import Derived.Test.YtmghkcjljnlocaaGreatDoorPZ
import Derived.Test.YtmghkcjljnlocaaGreatDoorPH
namespace Go.Proofs.YtmghkcjljnlocaaGreatDoor
open Go.RowKit
def few1 (x : Prx) : Bool := decide (x.ts.length ≤ 12) && decide (x.s.size ≤ 100)
def fewB (l : List Prx) : Bool := l.all few1 && decide (l.length ≤ 12)
theorem few_lean {l : List Prx} (h : fewB l = true) (hz : ∀ x ∈ l, ∀ t ∈ x.ts, t.s.size ≤ maxLen) : Lean14 l ∧ l.length ≤ 12 := by
  unfold fewB at h
  rw [Bool.and_eq_true, List.all_eq_true, decide_eq_true_eq] at h
  refine ⟨fun x hx => ?_, h.2⟩
  have h1 := h.1 x hx
  unfold few1 at h1
  rw [Bool.and_eq_true, decide_eq_true_eq, decide_eq_true_eq] at h1
  exact ⟨by unfold maxLen; omega, by omega, hz x hx⟩
set_option maxRecDepth 100000 in
set_option maxHeartbeats 4000000 in
theorem few_any (p : Option Addr) (n d : Nat) (l : List Prx) (w : World) (hl : l.length = n) (hn : n ≤ maxLen) (hm : ∀ x ∈ l, x.ts.length ≤ maxLen ∧ x.s.size ≤ maxLen) (hi : PrxIn w p n l) :
    Calls Tryz.prog 9 #[.slice p n d] w fun e w' => e = .returned (.bool (fewB l)) ∧ Below w.heap.size w w' := by
  obtain ⟨X, hX⟩ : ∃ X, fewB l = X := ⟨_, rfl⟩
  rw [hX]
  have HX := Lib.hid hX
  have HI := Lib.hid hi
  have HL := Lib.hid hl
  have HM := Lib.hid hm
  unfold maxLen at hn HM
  clear hX hi hl hm
  go_enter Tryz.func9, Tryz.ntmps9
  go_wp2_with fail
  go_loopw [4, 7] (fun _ i wr => ∃ k : Nat, k ≤ n ∧ i = .int .i64 k ∧ Hid (∀ j, j < k → few1 (l.getD j noPrx) = true) ∧ Hid (Below w.heap.size w wr)) (fun _ i _ => n - (intOf i).toNat)
  case atStart => exact ⟨0, by omega, rfl, Lib.hid (fun j h => by omega), Lib.hid (Below.refl _ _)⟩
  case round =>
    obtain ⟨k, hk, rfl, HN, HB⟩ := hrel
    by_cases hlt : k < n
    · obtain ⟨b, o, rfl, hc⟩ := prxs_on HI.out HB.out (by omega)
      obtain ⟨e0, e1, e2, q1, m1, d1, e3, em, el, et⟩ := hc k hlt
      rw [← Nat.add_assoc] at e1 e2 e3
      have hkl : k < l.length := by rw [HL.out]; exact hlt
      have hmem : l.getD k noPrx ∈ l := by rw [getD_at _ _ hkl]; exact List.getElem_mem _
      obtain ⟨hm1, hm2⟩ := HM.out _ hmem
      have HN2 := Lib.hid (fun (he : few1 (l.getD k noPrx) = true) => (show ∀ j, j < k + 1 → few1 (l.getD j noPrx) = true from fun j hj => by
        rcases Nat.lt_or_ge j k with g | g
        · exact HN.out j g
        · obtain rfl : j = k := by omega
          exact he))
      have HNE := Lib.hid (fun (he : few1 (l.getD k noPrx) = false) => (show X = false from by
        rw [← HX.out]
        cases hf : fewB l with
        | false => rfl
        | true =>
          unfold fewB at hf
          rw [Bool.and_eq_true, List.all_eq_true] at hf
          rw [hf.1 _ hmem] at he
          cases he))
      generalize l.getD k noPrx = x at *
      obtain ⟨xs, xon, xm, xt⟩ := x
      simp only at e0 e1 e2 hm1 hm2 el
      rw [el] at hm1
      have HBX := Lib.hid (show Below w.heap.size w (wr.alloc (.cells #[.string xs, .bool xon, .int .i64 xm, .slice q1 m1 d1] TP)) from seqB HB.out ((Below.refl _ _).alloc (Nat.le_refl _) _))
      clear hc et hmem hkl
      by_cases h1 : m1 ≤ 12
      · have k1 : decide ((12 : Int) < (m1 : Int)) = false := decide_eq_false (by omega)
        by_cases h2 : xs.size ≤ 100
        · have k2 : decide ((100 : Int) < (xs.size : Int)) = false := decide_eq_false (by omega)
          have HN3 := Lib.hid (HN2.out (by unfold few1; rw [Bool.and_eq_true, decide_eq_true_eq, decide_eq_true_eq]; exact ⟨by rw [el]; exact h1, h2⟩))
          clear HN2 HNE HN el
          go_wp2_with fail
          go_roundw
          case rel => exact ⟨k + 1, by omega, by go_num, HN3, HBX⟩
          case measure => simp [intOf]; omega
        · have k2 : decide ((100 : Int) < (xs.size : Int)) = true := decide_eq_true (by omega)
          have HF := Lib.hid (HNE.out (by unfold few1; rw [decide_eq_false h2, Bool.and_false]))
          clear HN2 HNE HN el
          go_wp2_with fail
          go_ret
          exact ⟨by rw [HF.out]; rfl, HBX.out⟩
      · have k1 : decide ((12 : Int) < (m1 : Int)) = true := decide_eq_true (by omega)
        have HF := Lib.hid (HNE.out (by unfold few1; rw [decide_eq_false (by rw [el]; exact h1), Bool.false_and]))
        clear HN2 HNE HN el
        go_wp2_with fail
        go_ret
        exact ⟨by rw [HF.out]; rfl, HBX.out⟩
    · obtain rfl : k = n := by omega
      have HA := Lib.hid (show l.all few1 = true from by
        rw [List.all_eq_true]
        intro x hx
        obtain ⟨j, hj, rfl⟩ := List.getElem_of_mem hx
        have := HN.out j (by rw [← HL.out]; exact hj)
        rwa [getD_at _ _ hj] at this)
      clear HN
      by_cases h12 : k ≤ 12
      · have HF := Lib.hid (show X = true from by rw [← HX.out]; unfold fewB; rw [HA.out, decide_eq_true (by rw [HL.out]; exact h12)]; rfl)
        have k1 : decide ((k : Int) ≤ 12) = true := decide_eq_true (by omega)
        go_wp2_with fail
        go_ret
        exact ⟨by rw [HF.out]; rfl, HB.out⟩
      · have HF := Lib.hid (show X = false from by rw [← HX.out]; unfold fewB; rw [decide_eq_false (by rw [HL.out]; exact h12), Bool.and_false])
        have k1 : decide ((k : Int) ≤ 12) = false := decide_eq_false (by omega)
        go_wp2_with fail
        go_ret
        exact ⟨by rw [HF.out]; rfl, HB.out⟩
end Go.Proofs.YtmghkcjljnlocaaGreatDoor

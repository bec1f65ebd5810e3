/-
  Contract: Same. Conditions: the slices' lengths.
-/
import Derived.Test.YtmghkcjljnlocaaGreatDoorPV
namespace Go.Proofs.YtmghkcjljnlocaaGreatDoor
open Go.RowKit
/-- The toxics are few. -/
def Few14 (l : List Prx) : Prop := ∀ x ∈ l, x.ts.length ≤ 1000000
theorem few_at {l : List Prx} (h : Few14 l) {k : Nat} (hk : k < l.length) : (l.getD k noPrx).ts.length ≤ 1000000 := h _ (by rw [getD_at _ _ hk]; exact List.getElem_mem _)
set_option maxRecDepth 100000 in
set_option maxHeartbeats 8000000 in
theorem eqP_any (p q : Option Addr) (n m d d' : Nat) (l l' : List Prx) (w : World) (hl : l.length = n) (hl' : l'.length = m) (hn : n ≤ 1000000) (hm : m ≤ 1000000) (hf : Few14 l) (hf' : Few14 l') (hi : PrxIn w p n l) (hi' : PrxIn w q m l') :
    Calls Tryz.prog 60 #[.slice p n d, .slice q m d', .func (.func 61) #[] #[]] w fun e w' => e = .returned (.bool (decide (l = l'))) ∧ Below w.heap.size w w' := by
  obtain ⟨X, hX⟩ : ∃ X, decide (l = l') = X := ⟨_, rfl⟩
  rw [hX]
  have HX := Lib.hid hX
  have HI := Lib.hid hi
  have HI' := Lib.hid hi'
  have HL := Lib.hid hl
  have HL' := Lib.hid hl'
  have HFW := Lib.hid hf
  have HFW' := Lib.hid hf'
  clear hX hi hi' hl hl' hf hf'
  by_cases hnm : n = m
  · subst hnm
    go_enter Tryz.func60, Tryz.ntmps60
    go_wp2_with fail
    go_loopw [7, 8, 9, 17] (fun _ _ _ i wr => ∃ k : Nat, k ≤ n ∧ i = .int .i64 k ∧ Hid (∀ j, j < k → l.getD j noPrx = l'.getD j noPrx) ∧ Hid (Below w.heap.size w wr)) (fun _ _ _ i _ => n - (intOf i).toNat)
    case atStart => exact ⟨0, by omega, rfl, Lib.hid (fun j h => by omega), Lib.hid (Below.refl _ _)⟩
    case round =>
      obtain ⟨k, hk, rfl, HN, HB⟩ := hrel
      by_cases hlt : k < n
      · obtain ⟨b, o, rfl, hc⟩ := prxs_on HI.out HB.out (by omega)
        obtain ⟨b', o', rfl, hc'⟩ := prxs_on HI'.out HB.out (by omega)
        obtain ⟨e0, e1, e2, q1, m1, d1, e3, em, el, et⟩ := hc k hlt
        obtain ⟨f0, f1, f2, q2, m2, d2, f3, fm, fl, ft⟩ := hc' k hlt
        rw [← Nat.add_assoc] at e1 e2 e3 f1 f2 f3
        have HN2 := Lib.hid (fun (he : l.getD k noPrx = l'.getD k noPrx) => (show ∀ j, j < k + 1 → l.getD j noPrx = l'.getD j noPrx from fun j hj => by
          rcases Nat.lt_or_ge j k with g | g
          · exact HN.out j g
          · obtain rfl : j = k := by omega
            exact he))
        have HNE := Lib.hid (fun (he : l.getD k noPrx ≠ l'.getD k noPrx) => (show X = false from by
          rw [← HX.out]
          exact decide_eq_false fun e => he (by rw [e])))
        have hm1 := few_at HFW.out (k := k) (by rw [HL.out]; exact hlt)
        have hm2 := few_at HFW'.out (k := k) (by rw [HL'.out]; exact hlt)
        generalize l.getD k noPrx = x at *
        generalize l'.getD k noPrx = y at *
        have hki : (k : Int) < (n : Int) := by omega
        have hal1 : Below wr.heap.size wr (wr.alloc (.cells #[.string x.s, .bool x.on, .int .i64 x.most, .slice q1 m1 d1] TP)) := (Below.refl _ _).alloc (Nat.le_refl _) _
        have j0 := (hal1.cell (World.block_lt_of_cell? wr _ f0)).trans f0
        have j1 := (hal1.cell (World.block_lt_of_cell? wr _ f1)).trans f1
        have j2 := (hal1.cell (World.block_lt_of_cell? wr _ f2)).trans f2
        have j3 := (hal1.cell (World.block_lt_of_cell? wr _ f3)).trans f3
        clear hal1
        obtain ⟨w1, hw1⟩ : ∃ w1, wr.alloc (.cells #[.string x.s, .bool x.on, .int .i64 x.most, .slice q1 m1 d1] TP) = w1 := ⟨_, rfl⟩
        obtain ⟨w2, hw2⟩ : ∃ w2, w1.alloc (.cells #[.string y.s, .bool y.on, .int .i64 y.most, .slice q2 m2 d2] TP) = w2 := ⟨_, rfl⟩
        have b1 : Below wr.heap.size wr w1 := by rw [← hw1]; exact (Below.refl _ _).alloc (Nat.le_refl _) _
        have b2 : Below w1.heap.size w1 w2 := by rw [← hw2]; exact (Below.refl _ _).alloc (Nat.le_refl _) _
        have b12 := seqB b1 b2
        have HC := Lib.hid (same1_any x y q1 q2 m1 m2 d1 d2 w2 el fl (by omega) (by omega) (toxs_on et b12) (toxs_on ft b12))
        have HB2 := Lib.hid (seqB HB.out b12)
        have HH := Lib.hid (⟨hw1, hw2⟩ : wr.alloc (.cells #[.string x.s, .bool x.on, .int .i64 x.most, .slice q1 m1 d1] TP) = w1 ∧ w1.alloc (.cells #[.string y.s, .bool y.on, .int .i64 y.most, .slice q2 m2 d2] TP) = w2)
        clear hc hc' b1 b2 b12 hw1 hw2 et ft hm1 hm2 el fl
        by_cases hxy : x = y
        · have HN3 := Lib.hid (HN2.out hxy)
          rw [decide_eq_true hxy] at HC
          clear HN2 HNE HN hxy
          go_wp2_with fail
          rw [HH.out.1, HH.out.2]
          refine HC.out.mono ?_
          rintro e w3 ⟨rfl, hb⟩
          have HB3 := Lib.hid (seqB HB2.out hb)
          clear hb HC e0 e1 e2 e3 f0 f1 f2 f3 j0 j1 j2 j3 HH
          go_wp2_with fail
          go_roundw
          case rel => exact ⟨k + 1, by omega, by go_num, HN3, HB3⟩
          case measure => simp [intOf]; omega
        · have HF := Lib.hid (HNE.out hxy)
          rw [decide_eq_false hxy] at HC
          clear HN2 HNE HN hxy
          go_wp2_with fail
          rw [HH.out.1, HH.out.2]
          refine HC.out.mono ?_
          rintro e w3 ⟨rfl, hb⟩
          have HB3 := Lib.hid (seqB HB2.out hb)
          clear hb HC e0 e1 e2 e3 f0 f1 f2 f3 j0 j1 j2 j3 HH
          go_wp2_with fail
          go_ret
          exact ⟨by rw [HF.out]; rfl, HB3.out⟩
      · obtain rfl : k = n := by omega
        have HF := Lib.hid (show X = true from by
          rw [← HX.out]
          exact decide_eq_true (lists_eq noPrx HL.out HL'.out HN.out))
        clear HN
        go_wp2_with fail
        go_ret
        exact ⟨by rw [HF.out]; rfl, HB.out⟩
  · have HF := Lib.hid (show X = false from by
      rw [← HX.out]
      exact decide_eq_false fun e => hnm (by rw [← HL.out, ← HL'.out, e]))
    have hd : ¬ ((n : Int) = (m : Int)) := by omega
    have hd2 : ((n : Int) != (m : Int)) = true := by simp; omega
    have hd3 : decide ((n : Int) = (m : Int)) = false := decide_eq_false hd
    have hd4 : ((n : Int) == (m : Int)) = false := by simp; omega
    clear hnm
    go_enter Tryz.func60, Tryz.ntmps60
    go_wp2_with fail
    go_ret
    exact ⟨by rw [HF.out]; rfl, Below.refl _ _⟩
set_option maxRecDepth 100000 in
set_option maxHeartbeats 4000000 in
theorem same_any (p q : Option Addr) (n m d d' : Nat) (l l' : List Prx) (w : World) (hl : l.length = n) (hl' : l'.length = m) (hn : n ≤ 1000000) (hm : m ≤ 1000000) (hf : Few14 l) (hf' : Few14 l') (hi : PrxIn w p n l) (hi' : PrxIn w q m l') :
    Calls Tryz.prog 28 #[.slice p n d, .slice q m d'] w fun e w' => e = .returned (.bool (decide (l = l'))) ∧ Below w.heap.size w w' := by
  have HX := Lib.hid (eqP_any p q n m d d' l l' w hl hl' hn hm hf hf' hi hi')
  generalize decide (l = l') = X at *
  clear hl hl' hf hf' hi hi'
  go_enter Tryz.func28, Tryz.ntmps28
  go_wp2_with fail
  refine HX.out.mono ?_
  rintro e w1 ⟨rfl, hb⟩
  have HB := Lib.hid hb
  clear hb HX
  go_wp2_with fail
  go_ret
  exact ⟨rfl, HB.out⟩
set_option maxRecDepth 100000 in
set_option maxHeartbeats 8000000 in
/-- The document's. -/
theorem rsame_any (p q : Option Addr) (n m d d' : Nat) (l l' : List Prx) (w : World) (hl : l.length = n) (hl' : l'.length = m) (hn : n ≤ 1000000) (hm : m ≤ 1000000) (hf : Few14 l) (hf' : Few14 l') (hi : PrxIn w p n l) (hi' : PrxIn w q m l') :
    Calls Tryz.prog 14 #[.slice p n d, .slice q m d'] w fun e w' => e = .returned (.bool (decide (l = l'))) ∧ Below w.heap.size w w' := by
  obtain ⟨X, hX⟩ : ∃ X, decide (l = l') = X := ⟨_, rfl⟩
  rw [hX]
  have HX := Lib.hid hX
  have HI := Lib.hid hi
  have HI' := Lib.hid hi'
  have HL := Lib.hid hl
  have HL' := Lib.hid hl'
  have HFW := Lib.hid hf
  have HFW' := Lib.hid hf'
  have hEG := Tryz.eqGuardType24
  have hSH := Tryz.stoodInHeld24
  clear hX hi hi' hl hl' hf hf'
  by_cases hnm : n = m
  · subst hnm
    go_enter Tryz.func14, Tryz.ntmps14
    go_wp2_with fail
    go_loopw [5, 6, 7, 8] (fun i _ _ _ wr => ∃ k : Nat, k ≤ n ∧ i = .int .i64 k ∧ Hid (∀ j, j < k → l.getD j noPrx = l'.getD j noPrx) ∧ Hid (Below w.heap.size w wr)) (fun i _ _ _ _ => n - (intOf i).toNat)
    case atStart => exact ⟨0, by omega, rfl, Lib.hid (fun j h => by omega), Lib.hid (Below.refl _ _)⟩
    case round =>
      obtain ⟨k, hk, rfl, HN, HB⟩ := hrel
      by_cases hlt : k < n
      · obtain ⟨b, o, rfl, hc⟩ := prxs_on HI.out HB.out (by omega)
        obtain ⟨b', o', rfl, hc'⟩ := prxs_on HI'.out HB.out (by omega)
        obtain ⟨e0, e1, e2, q1, m1, d1, e3, em, el, et⟩ := hc k hlt
        obtain ⟨f0, f1, f2, q2, m2, d2, f3, fm, fl, ft⟩ := hc' k hlt
        rw [← Nat.add_assoc] at e1 e2 e3 f1 f2 f3
        have HN2 := Lib.hid (fun (he : l.getD k noPrx = l'.getD k noPrx) => (show ∀ j, j < k + 1 → l.getD j noPrx = l'.getD j noPrx from fun j hj => by
          rcases Nat.lt_or_ge j k with g | g
          · exact HN.out j g
          · obtain rfl : j = k := by omega
            exact he))
        have HNE := Lib.hid (fun (he : l.getD k noPrx ≠ l'.getD k noPrx) => (show X = false from by
          rw [← HX.out]
          exact decide_eq_false fun e => he (by rw [e])))
        have hm1 := few_at HFW.out (k := k) (by rw [HL.out]; exact hlt)
        have hm2 := few_at HFW'.out (k := k) (by rw [HL'.out]; exact hlt)
        generalize l.getD k noPrx = x at *
        generalize l'.getD k noPrx = y at *
        have hki : (k : Int) < (n : Int) := by omega
        have hal1 : Below wr.heap.size wr (wr.alloc (.cells #[.string x.s, .bool x.on, .int .i64 x.most, .slice q1 m1 d1] TP)) := (Below.refl _ _).alloc (Nat.le_refl _) _
        have j0 := (hal1.cell (World.block_lt_of_cell? wr _ f0)).trans f0
        have j1 := (hal1.cell (World.block_lt_of_cell? wr _ f1)).trans f1
        have j2 := (hal1.cell (World.block_lt_of_cell? wr _ f2)).trans f2
        have j3 := (hal1.cell (World.block_lt_of_cell? wr _ f3)).trans f3
        clear hal1
        have HN1 := Lib.hid (fun (he : ¬ (x.s = y.s ∧ x.on = y.on ∧ x.most = y.most ∧ x.ts.length = y.ts.length)) => HNE.out fun e => he (by rw [e]; exact ⟨rfl, rfl, rfl, rfl⟩))
        have HBB := Lib.hid (show Below w.heap.size w ((wr.alloc (.cells #[.string x.s, .bool x.on, .int .i64 x.most, .slice q1 m1 d1] TP)).alloc (.cells #[.string y.s, .bool y.on, .int .i64 y.most, .slice q2 m2 d2] TP)) from seqB HB.out (seqB ((Below.refl _ _).alloc (Nat.le_refl _) _) ((Below.refl _ _).alloc (Nat.le_refl _) _)))
        clear hc hc'
        by_cases h1 : x.s = y.s
        · by_cases h2 : x.on = y.on
          · by_cases h3 : x.most = y.most
            · by_cases h4 : m1 = m2
              · have k1 : (x.s.toList == y.s.toList) = true := by rw [h1]; exact beq_self_eq_true _
                have k2 : (x.on == y.on) = true := by rw [h2]; exact beq_self_eq_true _
                have k3 : (x.most == y.most) = true := by rw [h3]; exact beq_self_eq_true _
                have k4 : decide (x.most = y.most) = true := decide_eq_true h3
                have k9 : (x.most != y.most) = false := by rw [h3]; simp
                subst h4
                have HEQ := Lib.hid (fun (he : x.ts = y.ts) => HN2.out (by
                  obtain ⟨xs, xo, xm, xt⟩ := x
                  obtain ⟨ys, yo, ym, yt⟩ := y
                  simp only at h1 h2 h3 he
                  rw [h1, h2, h3, he]))
                have HNQ := Lib.hid (fun (he : x.ts ≠ y.ts) => HNE.out fun e => he (by rw [e]))
                have HXT := Lib.hid et
                have HYT := Lib.hid ft
                have HEL := Lib.hid el
                have HFL := Lib.hid fl
                obtain ⟨w2, hw2⟩ : ∃ w2, (wr.alloc (.cells #[.string x.s, .bool x.on, .int .i64 x.most, .slice q1 m1 d1] TP)).alloc (.cells #[.string y.s, .bool y.on, .int .i64 y.most, .slice q2 m1 d2] TP) = w2 := ⟨_, rfl⟩
                have hb2 : Below wr.heap.size wr w2 := by rw [← hw2]; exact seqB ((Below.refl _ _).alloc (Nat.le_refl _) _) ((Below.refl _ _).alloc (Nat.le_refl _) _)
                have hs1 : (wr.alloc (.cells #[.string x.s, .bool x.on, .int .i64 x.most, .slice q1 m1 d1] TP)).heap.size = wr.heap.size + 1 := World.size_alloc _ _
                have hx1 : w2.cell? ⟨wr.heap.size, 3, none⟩ = some (.slice q1 m1 d1) := by
                  have h := heap_alloc_new wr (.cells #[.string x.s, .bool x.on, .int .i64 x.most, .slice q1 m1 d1] TP)
                  rw [← hw2]
                  exact cell_of_row _ _ 3 _ _ _ ((((Below.refl _ _).alloc (Nat.le_refl _) _).block _ (gc.blk_lt h)).trans h)
                have hx2 : w2.cell? ⟨wr.heap.size + 1, 3, none⟩ = some (.slice q2 m1 d2) := by
                  have h := heap_alloc_new (wr.alloc (.cells #[.string x.s, .bool x.on, .int .i64 x.most, .slice q1 m1 d1] TP)) (.cells #[.string y.s, .bool y.on, .int .i64 y.most, .slice q2 m1 d2] TP)
                  rw [hs1, hw2] at h
                  exact cell_of_row _ _ 3 _ _ _ h
                rw [hw2] at HBB
                have HW2 := Lib.hid hw2
                have HT1 := Lib.hid (toxs_on et hb2)
                have HT2 := Lib.hid (toxs_on ft hb2)
                have hm1' : m1 ≤ 1000000 := by omega
                clear h1 h2 h3 HN1 HN2 HNE HN et ft el fl hb2 hs1 hw2 hm1 hm2
                go_wp2_with fail
                rw [HW2.out]
                clear e0 e1 e2 e3 f0 f1 f2 f3 j0 j1 j2 j3 k1 k2 k3 k4 k9 HW2
                go_loopw [8] (fun i wv => ∃ r : Nat, r ≤ m1 ∧ i = .int .i64 r ∧ Hid (∀ j, j < r → x.ts.getD j noTox = y.ts.getD j noTox) ∧ ∃ N, wv = w2.drewN N) (fun i _ => m1 - (intOf i).toNat)
                case atStart => exact ⟨0, by omega, rfl, Lib.hid (fun j h => by omega), 0, rfl⟩
                case round =>
                  obtain ⟨r, hr, rfl, HM, N, rfl⟩ := hrel
                  by_cases hlr : r < m1
                  · obtain ⟨b1, o1, rfl, hc1⟩ := HT1.out (by omega)
                    obtain ⟨b2, o2, rfl, hc2⟩ := HT2.out (by omega)
                    obtain ⟨e0, e1, e2, e3, e4, e5⟩ := hc1 r hlr
                    obtain ⟨f0, f1, f2, f3, f4, f5⟩ := hc2 r hlr
                    rw [← Nat.add_assoc] at e1 e2 e3 e4 e5 f1 f2 f3 f4 f5
                    have HM2 := Lib.hid (fun (he : x.ts.getD r noTox = y.ts.getD r noTox) => (show ∀ j, j < r + 1 → x.ts.getD j noTox = y.ts.getD j noTox from fun j hj => by
                      rcases Nat.lt_or_ge j r with g | g
                      · exact HM.out j g
                      · obtain rfl : j = r := by omega
                        exact he))
                    have HMN := Lib.hid (fun (he : x.ts.getD r noTox ≠ y.ts.getD r noTox) => HNQ.out fun e => he (by rw [e]))
                    generalize x.ts.getD r noTox = t at *
                    generalize y.ts.getD r noTox = u at *
                    have hri : (r : Int) < (m1 : Int) := by omega
                    clear hc1 hc2
                    by_cases htu : t = u
                    · have HM3 := Lib.hid (HM2.out htu)
                      have hq := fun w => tox_eql t u w
                      rw [decide_eq_true htu] at hq
                      unfold Tox.v at hq
                      clear HM2 HMN HM htu
                      go_wp2_with fail
                      go_quiet (fail)
                      clear e0 e1 e2 e3 e4 e5 f0 f1 f2 f3 f4 f5 hq
                      go_wp2_with fail
                      go_roundw
                      case rel => exact ⟨r + 1, by omega, by go_num, HM3, N + nq, by first | rfl | rw [World.drewN_drewN]⟩
                      case measure => simp [intOf]; omega
                    · have HF := Lib.hid (HMN.out htu)
                      have hq := fun w => tox_eql t u w
                      rw [decide_eq_false htu] at hq
                      unfold Tox.v at hq
                      clear HM2 HMN HM htu
                      go_wp2_with fail
                      go_quiet (fail)
                      clear e0 e1 e2 e3 e4 e5 f0 f1 f2 f3 f4 f5 hq
                      go_wp2_with fail
                      go_ret
                      exact ⟨by rw [HF.out]; rfl, seqB (seqB HBB.out (nbelow_drewN w2 N)) (nbelow_drewN _ _)⟩
                  · obtain rfl : r = m1 := by omega
                    have HN3 := Lib.hid (HEQ.out (lists_eq noTox HEL.out HFL.out HM.out))
                    have HB3 := Lib.hid (seqB HBB.out (nbelow_drewN w2 N))
                    clear HM HEQ HNQ
                    go_wp2_with fail
                    go_roundw
                    case rel => exact ⟨k + 1, by omega, by go_num, HN3, HB3⟩
                    case measure => simp [intOf]; omega
              · have HF := Lib.hid (HN1.out fun e => h4 (by rw [← el, ← fl]; exact e.2.2.2))
                have k1 : (x.s.toList == y.s.toList) = true := by rw [h1]; exact beq_self_eq_true _
                have k2 : (x.on == y.on) = true := by rw [h2]; exact beq_self_eq_true _
                have k3 : (x.most == y.most) = true := by rw [h3]; exact beq_self_eq_true _
                have k4 : decide (x.most = y.most) = true := decide_eq_true h3
                have k9 : (x.most != y.most) = false := by rw [h3]; simp
                have k5 : ((m1 : Int) == (m2 : Int)) = false := by simp; omega
                have k6 : decide ((m1 : Int) = (m2 : Int)) = false := decide_eq_false (by omega)
                have k7 : ¬ ((m1 : Int) = (m2 : Int)) := by omega
                have k8 : ((m1 : Int) != (m2 : Int)) = true := by simp; omega
                clear h1 h2 h3 h4 HN2 HNE HN1 HN et ft
                go_wp2_with fail
                go_ret
                exact ⟨by rw [HF.out]; rfl, HBB.out⟩
            · have HF := Lib.hid (HN1.out fun e => h3 e.2.2.1)
              have k1 : (x.s.toList == y.s.toList) = true := by rw [h1]; exact beq_self_eq_true _
              have k2 : (x.on == y.on) = true := by rw [h2]; exact beq_self_eq_true _
              have k3 : (x.most == y.most) = false := by simpa using h3
              have k4 : decide (x.most = y.most) = false := decide_eq_false h3
              have k9 : (x.most != y.most) = true := by simpa using h3
              clear h1 h2 h3 HN2 HNE HN1 HN et ft
              go_wp2_with fail
              go_ret
              exact ⟨by rw [HF.out]; rfl, HBB.out⟩
          · have HF := Lib.hid (HN1.out fun e => h2 e.2.1)
            have k1 : (x.s.toList == y.s.toList) = true := by rw [h1]; exact beq_self_eq_true _
            have k2 : (x.on == y.on) = false := by simpa using h2
            clear h1 h2 HN2 HNE HN1 HN et ft
            go_wp2_with fail
            go_ret
            exact ⟨by rw [HF.out]; rfl, HBB.out⟩
        · have HF := Lib.hid (HN1.out fun e => h1 e.1)
          have k1 := neqL h1
          clear h1 HN2 HNE HN1 HN et ft
          go_wp2_with fail
          go_ret
          exact ⟨by rw [HF.out]; rfl, HBB.out⟩
      · obtain rfl : k = n := by omega
        have HF := Lib.hid (show X = true from by
          rw [← HX.out]
          exact decide_eq_true (lists_eq noPrx HL.out HL'.out HN.out))
        clear HN
        go_wp2_with fail
        go_ret
        exact ⟨by rw [HF.out]; rfl, HB.out⟩
  · have HF := Lib.hid (show X = false from by
      rw [← HX.out]
      exact decide_eq_false fun e => hnm (by rw [← HL.out, ← HL'.out, e]))
    have hd : ¬ ((n : Int) = (m : Int)) := by omega
    have hd2 : ((n : Int) != (m : Int)) = true := by simp; omega
    have hd3 : decide ((n : Int) = (m : Int)) = false := decide_eq_false hd
    have hd4 : ((n : Int) == (m : Int)) = false := by simp; omega
    clear hnm
    go_enter Tryz.func14, Tryz.ntmps14
    go_wp2_with fail
    go_ret
    exact ⟨by rw [HF.out]; rfl, Below.refl _ _⟩
end Go.Proofs.YtmghkcjljnlocaaGreatDoor

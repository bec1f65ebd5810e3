/-
  Contracts: where a name stands among proxies, or among toxics. Conditions: the slice's length.
-/
import Derived.Test.YtmghkcjljnlocaaGreatDoorPC
namespace Go.Proofs.YtmghkcjljnlocaaGreatDoor
open Go.RowKit
set_option maxRecDepth 100000 in
set_option maxHeartbeats 4000000 in
theorem idxT_any (p : Option Addr) (n d : Nat) (l : List Tox) (z : ByteArray) (B1 B2 : Nat) (w : World) (hl : l.length = n) (hn : n ≤ 1000000) (hi : ToxIn w p n l) (hf : w.cell? ⟨B1, 0, none⟩ = some (.func (.func 42) #[] #[])) (hz : w.cell? ⟨B2, 0, none⟩ = some (.string z)) :
    Calls Tryz.prog 76 #[.slice p n d, .func (.func 77) #[] #[ptr B1, ptr B2]] w fun e w' => e = .returned (.int .i64 (orNone (Nm.fT l z) n)) ∧ Below w.heap.size w w' := by
  have HI := Lib.hid hi
  have HL := Lib.hid hl
  have HF := Lib.hid hf
  have HZ := Lib.hid hz
  obtain ⟨R, hR⟩ : ∃ R, orNone (Nm.fT l z) n = R := ⟨_, rfl⟩
  have HRR := Lib.hid hR
  rw [hR]
  clear hi hl hf hz hR
  go_enter Tryz.func76, Tryz.ntmps76
  go_wp2_with fail
  go_loopw [5, 8] (fun x i wr => ∃ k : Nat, k ≤ n ∧ i = .int .i64 k ∧ Hid (∀ j, j < k → (l.getD j noTox).s ≠ z) ∧ Hid (Below w.heap.size w wr)) (fun _ i _ => n - (intOf i).toNat)
  case atStart => exact ⟨0, by omega, rfl, Lib.hid (fun j h => by omega), Lib.hid (Below.refl _ _)⟩
  case round =>
    obtain ⟨k, hk, rfl, HN, HB⟩ := hrel
    by_cases hlt : k < n
    · obtain ⟨b, o, rfl, hcell⟩ := toxs_on HI.out HB.out (by omega)
      obtain ⟨c0, c1, c2, c3, c4, c5⟩ := hcell k hlt
      have HG := Lib.hid (show l.getD k noTox = l[k]'(by rw [HL.out]; exact hlt) from getD_at _ _ (by rw [HL.out]; exact hlt))
      have HC := Lib.hid (cloT_any (l.getD k noTox) z B1 B2 wr ((HB.out.cell (World.block_lt_of_cell? w _ HF.out)).trans HF.out) ((HB.out.cell (World.block_lt_of_cell? w _ HZ.out)).trans HZ.out))
      have HE := Lib.hid (fun (hs : (l.getD k noTox).s = z) => (show R = (k : Int) from by
        rw [← HRR.out]
        have e : Nm.fT l z = k := Nm.fnd_hit (by rw [HL.out]; exact hlt) (by rw [← HG.out]; exact hs) fun j hj e => HN.out j hj (by rw [getD_at _ _ (by have := HL.out; omega)]; exact e)
        rw [e]
        exact if_pos hlt))
      have HN2 := Lib.hid (fun (hs : (l.getD k noTox).s ≠ z) => (show ∀ j, j < k + 1 → (l.getD j noTox).s ≠ z from fun j hj => by
        rcases Nat.lt_or_ge j k with g | g
        · exact HN.out j g
        · obtain rfl : j = k := by omega
          exact hs))
      generalize l.getD k noTox = tx at *
      rw [← Nat.add_assoc] at c1 c2 c3 c4 c5
      clear hcell HG HN
      go_wp2_with fail
      refine HC.out.mono ?_
      rintro e w2 ⟨rfl, hb⟩
      have HB2 := Lib.hid (seqB HB.out hb)
      clear hb HC c0 c1 c2 c3 c4 c5
      by_cases hs : tx.s = z
      · have HR := Lib.hid (HE.out hs)
        rw [decide_eq_true hs]
        clear hs HE HN2
        go_wp2_with fail
        go_ret
        exact ⟨by rw [HR.out]; rfl, HB2.out⟩
      · have HR := Lib.hid (HN2.out hs)
        rw [decide_eq_false hs]
        clear hs HE HN2
        go_wp2_with fail
        go_roundw
        case rel => exact ⟨k + 1, by omega, by go_num, HR, HB2⟩
        case measure => simp [intOf]; omega
    · obtain rfl : n = k := by omega
      have HR := Lib.hid (show R = -1 from by
        rw [← HRR.out]
        have := Nm.fnd_none (key := Tox.s) (l := l) (s := z) fun x hx e => by
          obtain ⟨j, hj, rfl⟩ := List.getElem_of_mem hx
          refine HN.out j (by rw [← HL.out]; exact hj) ?_
          rw [getD_at _ _ hj]
          exact e
        refine if_neg ?_
        have h2 : Nm.fT l z = l.length := this
        have := HL.out
        omega)
      clear HN
      go_wp2_with fail
      go_ret
      exact ⟨by rw [HR.out]; rfl, HB.out⟩
set_option maxRecDepth 100000 in
set_option maxHeartbeats 4000000 in
theorem whereT_any (p : Option Addr) (n d : Nat) (l : List Tox) (z : ByteArray) (w : World) (hl : l.length = n) (hn : n ≤ 1000000) (hi : ToxIn w p n l) :
    Calls Tryz.prog 41 #[.slice p n d, .string z, .func (.func 42) #[] #[]] w fun e w' => e = .returned (.int .i64 (orNone (Nm.fT l z) n)) ∧ Below w.heap.size w w' := by
  obtain ⟨w1, hw1⟩ : ∃ w1, w.alloc (.cells #[.string z] 9) = w1 := ⟨_, rfl⟩
  obtain ⟨w2, hw2⟩ : ∃ w2, w1.alloc (.cells #[.func (.func 42) #[] #[]] 58) = w2 := ⟨_, rfl⟩
  have b1 : Below w.heap.size w w1 := by rw [← hw1]; exact (Below.refl _ _).alloc (Nat.le_refl _) _
  have b2 : Below w1.heap.size w1 w2 := by rw [← hw2]; exact (Below.refl _ _).alloc (Nat.le_refl _) _
  have HB := Lib.hid (seqB b1 b2)
  have h1 : w1.heap[w.heap.size]? = some (.cells #[.string z] 9 (0, 0)) := by rw [← hw1]; exact heap_alloc_new _ _
  have h2 : w2.heap[w1.heap.size]? = some (.cells #[.func (.func 42) #[] #[]] 58 (0, 0)) := by rw [← hw2]; exact heap_alloc_new _ _
  have hX := idxT_any p n d l z w1.heap.size w.heap.size w2 hl hn (toxs_on hi HB.out) (cell_of_row _ _ 0 _ _ _ h2) (cell_of_row _ _ 0 _ _ _ ((b2.block _ (gc.blk_lt h1)).trans h1))
  have hs : w1.heap.size = w.heap.size + 1 := by rw [← hw1]; exact World.size_alloc _ _
  rw [hs] at hX
  have HX := Lib.hid hX
  have HW := Lib.hid hw1
  have HW2 := Lib.hid hw2
  clear hX b1 b2 h1 h2 hi hl hw1 hw2
  go_enter Tryz.func41, Tryz.ntmps41
  go_wp2_with fail
  rw [HW.out, HW2.out]
  refine HX.out.mono ?_
  rintro e w3 ⟨rfl, hb⟩
  have HB2 := Lib.hid (seqB HB.out hb)
  clear hb
  go_wp2_with fail
  go_ret
  exact ⟨rfl, HB2.out⟩
set_option maxRecDepth 100000 in
set_option maxHeartbeats 4000000 in
theorem idxP_any (p : Option Addr) (n d : Nat) (l : List Prx) (z : ByteArray) (B1 B2 : Nat) (w : World) (hl : l.length = n) (hn : n ≤ 1000000) (hi : PrxIn w p n l) (hf : w.cell? ⟨B1, 0, none⟩ = some (.func (.func 52) #[] #[])) (hz : w.cell? ⟨B2, 0, none⟩ = some (.string z)) :
    Calls Tryz.prog 79 #[.slice p n d, .func (.func 80) #[] #[ptr B1, ptr B2]] w fun e w' => e = .returned (.int .i64 (orNone (Nm.fP l z) n)) ∧ Below w.heap.size w w' := by
  have HI := Lib.hid hi
  have HL := Lib.hid hl
  have HF := Lib.hid hf
  have HZ := Lib.hid hz
  obtain ⟨R, hR⟩ : ∃ R, orNone (Nm.fP l z) n = R := ⟨_, rfl⟩
  have HRR := Lib.hid hR
  rw [hR]
  clear hi hl hf hz hR
  go_enter Tryz.func79, Tryz.ntmps79
  go_wp2_with fail
  go_loopw [5, 8] (fun x i wr => ∃ k : Nat, k ≤ n ∧ i = .int .i64 k ∧ Hid (∀ j, j < k → (l.getD j noPrx).s ≠ z) ∧ Hid (Below w.heap.size w wr)) (fun _ i _ => n - (intOf i).toNat)
  case atStart => exact ⟨0, by omega, rfl, Lib.hid (fun j h => by omega), Lib.hid (Below.refl _ _)⟩
  case round =>
    obtain ⟨k, hk, rfl, HN, HB⟩ := hrel
    by_cases hlt : k < n
    · obtain ⟨b, o, rfl, hcell⟩ := prxs_on HI.out HB.out (by omega)
      obtain ⟨c0, c1, c2, q, m, dd, c3, -⟩ := hcell k hlt
      have HG := Lib.hid (show l.getD k noPrx = l[k]'(by rw [HL.out]; exact hlt) from getD_at _ _ (by rw [HL.out]; exact hlt))
      have HC := Lib.hid (fun q m d => cloP_any (l.getD k noPrx).s z (l.getD k noPrx).on (l.getD k noPrx).most q m d B1 B2 wr ((HB.out.cell (World.block_lt_of_cell? w _ HF.out)).trans HF.out) ((HB.out.cell (World.block_lt_of_cell? w _ HZ.out)).trans HZ.out))
      have HE := Lib.hid (fun (hs : (l.getD k noPrx).s = z) => (show R = (k : Int) from by
        rw [← HRR.out]
        have e : Nm.fP l z = k := Nm.fnd_hit (by rw [HL.out]; exact hlt) (by rw [← HG.out]; exact hs) fun j hj e => HN.out j hj (by rw [getD_at _ _ (by have := HL.out; omega)]; exact e)
        rw [e]
        exact if_pos hlt))
      have HN2 := Lib.hid (fun (hs : (l.getD k noPrx).s ≠ z) => (show ∀ j, j < k + 1 → (l.getD j noPrx).s ≠ z from fun j hj => by
        rcases Nat.lt_or_ge j k with g | g
        · exact HN.out j g
        · obtain rfl : j = k := by omega
          exact hs))
      generalize l.getD k noPrx = tx at *
      rw [← Nat.add_assoc] at c1 c2 c3
      clear hcell HG HN
      go_wp2_with fail
      refine (HC.out _ _ _).mono ?_
      rintro e w2 ⟨rfl, hb⟩
      have HB2 := Lib.hid (seqB HB.out hb)
      clear hb HC c0 c1 c2 c3
      by_cases hs : tx.s = z
      · have HR := Lib.hid (HE.out hs)
        rw [decide_eq_true hs]
        clear hs HE HN2
        go_wp2_with fail
        go_ret
        exact ⟨by rw [HR.out]; rfl, HB2.out⟩
      · have HR := Lib.hid (HN2.out hs)
        rw [decide_eq_false hs]
        clear hs HE HN2
        go_wp2_with fail
        go_roundw
        case rel => exact ⟨k + 1, by omega, by go_num, HR, HB2⟩
        case measure => simp [intOf]; omega
    · obtain rfl : n = k := by omega
      have HR := Lib.hid (show R = -1 from by
        rw [← HRR.out]
        have := Nm.fnd_none (key := Prx.s) (l := l) (s := z) fun x hx e => by
          obtain ⟨j, hj, rfl⟩ := List.getElem_of_mem hx
          refine HN.out j (by rw [← HL.out]; exact hj) ?_
          rw [getD_at _ _ hj]
          exact e
        refine if_neg ?_
        have h2 : Nm.fP l z = l.length := this
        have := HL.out
        omega)
      clear HN
      go_wp2_with fail
      go_ret
      exact ⟨by rw [HR.out]; rfl, HB.out⟩
set_option maxRecDepth 100000 in
set_option maxHeartbeats 4000000 in
theorem whereP_any (p : Option Addr) (n d : Nat) (l : List Prx) (z : ByteArray) (w : World) (hl : l.length = n) (hn : n ≤ 1000000) (hi : PrxIn w p n l) :
    Calls Tryz.prog 51 #[.slice p n d, .string z, .func (.func 52) #[] #[]] w fun e w' => e = .returned (.int .i64 (orNone (Nm.fP l z) n)) ∧ Below w.heap.size w w' := by
  obtain ⟨w1, hw1⟩ : ∃ w1, w.alloc (.cells #[.string z] 9) = w1 := ⟨_, rfl⟩
  obtain ⟨w2, hw2⟩ : ∃ w2, w1.alloc (.cells #[.func (.func 52) #[] #[]] 69) = w2 := ⟨_, rfl⟩
  have b1 : Below w.heap.size w w1 := by rw [← hw1]; exact (Below.refl _ _).alloc (Nat.le_refl _) _
  have b2 : Below w1.heap.size w1 w2 := by rw [← hw2]; exact (Below.refl _ _).alloc (Nat.le_refl _) _
  have HB := Lib.hid (seqB b1 b2)
  have h1 : w1.heap[w.heap.size]? = some (.cells #[.string z] 9 (0, 0)) := by rw [← hw1]; exact heap_alloc_new _ _
  have h2 : w2.heap[w1.heap.size]? = some (.cells #[.func (.func 52) #[] #[]] 69 (0, 0)) := by rw [← hw2]; exact heap_alloc_new _ _
  have hX := idxP_any p n d l z w1.heap.size w.heap.size w2 hl hn (prxs_on hi HB.out) (cell_of_row _ _ 0 _ _ _ h2) (cell_of_row _ _ 0 _ _ _ ((b2.block _ (gc.blk_lt h1)).trans h1))
  have hs : w1.heap.size = w.heap.size + 1 := by rw [← hw1]; exact World.size_alloc _ _
  rw [hs] at hX
  have HX := Lib.hid hX
  have HW := Lib.hid hw1
  have HW2 := Lib.hid hw2
  clear hX b1 b2 h1 h2 hi hl hw1 hw2
  go_enter Tryz.func51, Tryz.ntmps51
  go_wp2_with fail
  rw [HW.out, HW2.out]
  refine HX.out.mono ?_
  rintro e w3 ⟨rfl, hb⟩
  have HB2 := Lib.hid (seqB HB.out hb)
  clear hb
  go_wp2_with fail
  go_ret
  exact ⟨rfl, HB2.out⟩
end Go.Proofs.YtmghkcjljnlocaaGreatDoor

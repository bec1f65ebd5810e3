/-
  Contract: Right of a list. Conditions: the names' lengths.
-/
import Derived.Test.YtmghkcjljnlocaaGreatDoorPF
namespace Go.Proofs.YtmghkcjljnlocaaGreatDoor
open Go.RowKit
open Classical in
noncomputable def rightB (l : List Prx) : Bool := decide (Nm.Right l)
theorem right_yes {l : List Prx} (h : Nm.Right l) : rightB l = true := @decide_eq_true _ (Classical.propDecidable _) h
theorem right_no {l : List Prx} (h : ¬ Nm.Right l) : rightB l = false := @decide_eq_false _ (Classical.propDecidable _) h
theorem right_true {l : List Prx} : rightB l = true ↔ Nm.Right l := ⟨fun h => @of_decide_eq_true _ (Classical.propDecidable _) h, right_yes⟩
/-- The first ones are right. -/
def upTo (l : List Prx) (k : Nat) : Prop := ∀ j, j < k → Nm.chkP (l.getD j noPrx) = 0 ∧ (0 < j → Nm.ltB (l.getD (j - 1) noPrx).s (l.getD j noPrx).s = true)
theorem up_next {l : List Prx} {k : Nat} (h : upTo l k) (hc : Nm.chkP (l.getD k noPrx) = 0) (hl : 0 < k → Nm.ltB (l.getD (k - 1) noPrx).s (l.getD k noPrx).s = true) : upTo l (k + 1) := fun j hj => by
  rcases Nat.lt_or_ge j k with g | g
  · exact h j g
  · obtain rfl : j = k := by omega
    exact ⟨hc, hl⟩
theorem up_right {l : List Prx} (h : upTo l l.length) (h8 : l.length ≤ 8) : Nm.Right l := by
  refine ⟨fun p hp => ?_, Nm.ord_adj fun i h1 => ?_, h8⟩
  · obtain ⟨j, hj, rfl⟩ := List.getElem_of_mem hp
    have := (h j hj).1
    rwa [getD_at _ _ hj] at this
  · have := (h (i + 1) h1).2 (by omega)
    rw [Nat.add_sub_cancel, getD_at _ _ h1, getD_at _ _ (by omega)] at this
    exact this
theorem up_chk {l : List Prx} {k : Nat} (hk : k < l.length) (hc : Nm.chkP (l.getD k noPrx) ≠ 0) : ¬ Nm.Right l := fun h => hc (h.each _ (by rw [getD_at _ _ hk]; exact List.getElem_mem _))
theorem up_ord {l : List Prx} {k : Nat} (hk : k + 1 < l.length) (hc : Nm.ltB (l.getD k noPrx).s (l.getD (k + 1) noPrx).s = false) : ¬ Nm.Right l := fun h => by
  have := Nm.ord_at h.ord hk
  rw [getD_at _ _ hk, getD_at _ _ (by omega)] at hc
  rw [hc] at this
  cases this
theorem wrapN_id {z : Int} (h1 : -9223372036854775808 ≤ z) (h2 : z ≤ 9223372036854775807) : IntKind.i64.wrap z = z := by
  rw [IntKind.wrap_i64]
  omega
/-- The names' lengths. -/
def Lean14 (l : List Prx) : Prop := ∀ x ∈ l, x.s.size ≤ maxLen ∧ x.ts.length ≤ 1000000 ∧ ∀ t ∈ x.ts, t.s.size ≤ maxLen
set_option maxRecDepth 100000 in
set_option maxHeartbeats 8000000 in
theorem right_any (p : Option Addr) (n d : Nat) (l : List Prx) (w : World) (hl : l.length = n) (hn : n ≤ 1000000) (hz : Lean14 l) (hi : PrxIn w p n l) :
    Calls Tryz.prog 16 #[.slice p n d] w fun e w' => e = .returned (.bool (rightB l)) ∧ Below w.heap.size w w' := by
  have HI := Lib.hid hi
  have HL := Lib.hid hl
  have HZ := Lib.hid hz
  obtain ⟨X, hX⟩ : ∃ X, rightB l = X := ⟨_, rfl⟩
  have HX := Lib.hid hX
  rw [hX]
  clear hi hl hz hX
  by_cases h8 : 8 < n
  · have HF := Lib.hid (show X = false from by rw [← HX.out]; exact right_no fun h => by have := h.few; have := HL.out; omega)
    have d1 : decide (8 < (n : Int)) = true := decide_eq_true (by omega)
    go_enter Tryz.func16, Tryz.ntmps16
    go_wp2_with fail
    go_ret
    exact ⟨by rw [HF.out]; rfl, Below.refl _ _⟩
  · have d1 : decide (8 < (n : Int)) = false := decide_eq_false (by omega)
    go_enter Tryz.func16, Tryz.ntmps16
    go_wp2_with fail
    clear d1
    go_loopw [3, 4, 5, 11] (fun _ _ _ i wr => ∃ k : Nat, k ≤ n ∧ i = .int .i64 k ∧ Hid (upTo l k) ∧ Hid (Below w.heap.size w wr)) (fun _ _ _ i _ => n - (intOf i).toNat)
    case atStart => exact ⟨0, by omega, rfl, Lib.hid (fun j h => by omega), Lib.hid (Below.refl _ _)⟩
    case round =>
      obtain ⟨k, hk, rfl, HN, HB⟩ := hrel
      by_cases hlt : k < n
      · have hcl := prxs_on HI.out HB.out
        obtain ⟨b, o, rfl, hcell⟩ := hcl (by omega)
        obtain ⟨c0, c1, c2, qt, mt, dt, c3, hmd, hlt2, htx⟩ := hcell k hlt
        rw [← Nat.add_assoc] at c1 c2 c3
        obtain ⟨z1, z2, z3⟩ := HZ.out (l.getD k noPrx) (by rw [getD_at _ _ (by rw [HL.out]; exact hlt)]; exact List.getElem_mem _)
        have HUN := Lib.hid (fun h1 h2 => up_next (l := l) (k := k) HN.out h1 h2)
        have HUC := Lib.hid (fun h => up_chk (l := l) (k := k) (by rw [HL.out]; exact hlt) h)
        have HUO := Lib.hid (fun (hk0 : 0 < k) (h : Nm.ltB (l.getD (k - 1) noPrx).s (l.getD k noPrx).s = false) => (show ¬ Nm.Right l from up_ord (l := l) (k := k - 1) (by have := HL.out; omega) (by rw [show k - 1 + 1 = k by omega]; exact h)))
        have hprev : 0 < k → wr.cell? ⟨b, o + (k - 1) * 4, none⟩ = some (.string (l.getD (k - 1) noPrx).s) := fun h => (hcell (k - 1) (by omega)).1
        generalize hxx : l.getD k noPrx = x at *
        generalize hyy : (l.getD (k - 1) noPrx).s = y at *
        obtain ⟨xs, xon, xm, xt⟩ := x
        simp only at c0 c1 c2 hlt2 htx z1 z2 z3 HUO HUN
        obtain ⟨w3, hw3⟩ : ∃ w3, wr.alloc (.cells #[.string xs, .bool xon, .int .i64 xm, .slice qt mt dt] TP) = w3 := ⟨_, rfl⟩
        have b3 : Below wr.heap.size wr w3 := by rw [← hw3]; exact (Below.refl _ _).alloc (Nat.le_refl _) _
        have h3 : w3.heap[wr.heap.size]? = some (.cells #[.string xs, .bool xon, .int .i64 xm, .slice qt mt dt] TP (0, 0)) := by rw [← hw3]; exact heap_alloc_new _ _
        have HH := Lib.hid hw3
        have HW3 := Lib.hid (seqB HB.out b3)
        have HC := Lib.hid (fun W (hW : Below w3.heap.size w3 W) => chkp_any xs xon xm qt mt dt xt W z1 hlt2 hmd (by omega) z3 (toxs_on (toxs_on htx b3) hW))
        have H3 := Lib.hid (fun W (hW : Below w3.heap.size w3 W) => (hW.block _ (gc.blk_lt h3)).trans h3)
        obtain ⟨C, hC⟩ : ∃ C, Nm.chkP ⟨xs, xon, xm, xt⟩ = C := ⟨_, rfl⟩
        rw [hC] at HC HUC HUN
        have x0 : w3.cell? ⟨wr.heap.size, 0, none⟩ = some (.string xs) := cell_of_row _ _ 0 _ _ _ h3
        clear hC z1 z2 z3 hlt2 htx h3 hcl hmd hw3
        by_cases hk0 : k = 0
        · subst hk0
          clear hcell hprev
          simp only [Nat.zero_mul, Nat.add_zero] at c0 c1 c2 c3
          go_wp2_with fail
          rw [HH.out]
          clear c0 c1 c2 c3 HH
          go_quiet (fail)
          have HD := Lib.hid (seqB HW3.out (nbelow_drewN w3 nq))
          have hb4 := H3.out _ (nbelow_drewN w3 nq)
          have HC4 := Lib.hid (HC.out _ (nbelow_drewN w3 nq))
          have y0 := cell_of_row _ _ 0 _ _ _ hb4
          have y1 := cell_of_row _ _ 1 _ _ _ hb4
          have y2 := cell_of_row _ _ 2 _ _ _ hb4
          have y3 := cell_of_row _ _ 3 _ _ _ hb4
          clear HC H3 x0 hb4
          generalize w3.drewN nq = w4 at *
          go_wp2_with fail
          refine HC4.out.mono ?_
          rintro e w5 ⟨rfl, hb5⟩
          have HB5 := Lib.hid (seqB HD.out hb5)
          clear hb5 y0 y1 y2 y3 HC4
          by_cases hC0 : C = 0
          · subst hC0
            have HN3 := Lib.hid (HUN.out rfl (fun h => absurd h (by omega)))
            clear HUN HUC HUO HN
            go_wp2_with fail
            go_roundw
            case rel => exact ⟨1, by omega, by go_num, HN3, HB5⟩
            case measure => simp [intOf]; omega
          · have d4 : (C != 0) = true := by simpa using hC0
            have d5 : decide (C = 0) = false := by simpa using hC0
            have HF := Lib.hid (show X = false from by rw [← HX.out]; exact right_no (HUC.out hC0))
            clear HUN HUC HUO HN hC0
            go_wp2_with fail
            go_ret
            exact ⟨by rw [HF.out]; rfl, HB5.out⟩
        · obtain ⟨j, rfl⟩ : ∃ j, k = j + 1 := ⟨k - 1, by omega⟩
          rw [Nat.add_sub_cancel] at hprev
          have hp := hprev (by omega)
          have hp3 : w3.cell? ⟨b, o + j * 4, none⟩ = some (.string y) := (b3.cell (World.block_lt_of_cell? wr _ hp)).trans hp
          have hkn : ¬ ((j : Int) + 1 = 0) := by omega
          have hkd : decide ((j : Int) + 1 = 0) = false := decide_eq_false hkn
          have hkw : IntKind.i64.wrap (j : Int) = (j : Int) := wrapN_id (by omega) (by omega)
          have hkw2 : IntKind.i64.wrap ((j : Int) + 1 - 1) = (j : Int) := by rw [Int.add_sub_cancel]; exact hkw
          have hj0 : (0 : Int) ≤ (j : Int) := by omega
          have hj1 : (j : Int) < (n : Int) := by omega
          have hj2 : (j : Int) + 1 < (n : Int) := by omega
          clear hcell hprev hp
          cases hL : Nm.ltB y xs with
          | true =>
            have hL' : Op.bytesLess y.toList xs.toList = true := hL
            clear b3
            go_wp2_with fail
            rw [HH.out]
            clear c0 c1 c2 c3 HH
            go_quiet (fail)
            clear hp3 hL'
            have HD := Lib.hid (seqB HW3.out (nbelow_drewN w3 nq))
            have hb4 := H3.out _ (nbelow_drewN w3 nq)
            have HC4 := Lib.hid (HC.out _ (nbelow_drewN w3 nq))
            have y0 := cell_of_row _ _ 0 _ _ _ hb4
            have y1 := cell_of_row _ _ 1 _ _ _ hb4
            have y2 := cell_of_row _ _ 2 _ _ _ hb4
            have y3 := cell_of_row _ _ 3 _ _ _ hb4
            clear HC H3 x0 hb4
            generalize w3.drewN nq = w4 at *
            go_wp2_with fail
            refine HC4.out.mono ?_
            rintro e w5 ⟨rfl, hb5⟩
            have HB5 := Lib.hid (seqB HD.out hb5)
            clear hb5 y0 y1 y2 y3 HC4
            by_cases hC0 : C = 0
            · subst hC0
              have HN3 := Lib.hid (HUN.out rfl (fun _ => hL))
              clear HUN HUC HUO HN
              go_wp2_with fail
              go_roundw
              case rel => exact ⟨j + 1 + 1, by omega, by go_num, HN3, HB5⟩
              case measure => simp [intOf]; omega
            · have d4 : (C != 0) = true := by simpa using hC0
              have d5 : decide (C = 0) = false := by simpa using hC0
              have HF := Lib.hid (show X = false from by rw [← HX.out]; exact right_no (HUC.out hC0))
              clear HUN HUC HUO HN hC0
              go_wp2_with fail
              go_ret
              exact ⟨by rw [HF.out]; rfl, HB5.out⟩
          | false =>
            have hL' : Op.bytesLess y.toList xs.toList = false := hL
            have HF := Lib.hid (show X = false from by rw [← HX.out]; exact right_no (HUO.out (by omega) hL))
            clear b3
            go_wp2_with fail
            rw [HH.out]
            clear c0 c1 c2 c3 HH
            go_quiet (fail)
            have HD := Lib.hid (seqB HW3.out (nbelow_drewN w3 nq))
            clear hp3 hL' x0 HUN HUC HUO HN HC H3
            go_wp2_with fail
            go_ret
            exact ⟨by rw [HF.out]; rfl, HD.out⟩
      · obtain rfl : k = n := by omega
        have HF := Lib.hid (show X = true from by rw [← HX.out]; exact right_yes (up_right (by rw [HL.out]; exact HN.out) (by rw [HL.out]; omega)))
        clear HN
        go_wp2_with fail
        go_ret
        exact ⟨by rw [HF.out]; rfl, HB.out⟩
end Go.Proofs.YtmghkcjljnlocaaGreatDoor

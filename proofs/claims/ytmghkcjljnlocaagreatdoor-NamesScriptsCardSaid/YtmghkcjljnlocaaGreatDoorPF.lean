/-
  Contract: Check of a proxy. Conditions: as it states.
-/
import Derived.Test.YtmghkcjljnlocaaGreatDoorPE
import Derived.Test.YtmghkcjljnlocaaGreatDoorXW5
import Derived.Deep.Cut
namespace Go.Proofs.YtmghkcjljnlocaaGreatDoor
open Go.RowKit
set_option maxRecDepth 100000 in
theorem maylet_any (n : Int) (w : World) : Calls Tryz.prog 39 #[.int .i64 n] w fun e w' => e = .returned (.bool (decide (1 ≤ n ∧ n ≤ 16))) ∧ w = w' := by
  by_cases h1 : 1 ≤ n
  · by_cases h2 : n ≤ 16
    · have e : decide (1 ≤ n ∧ n ≤ 16) = true := decide_eq_true ⟨h1, h2⟩
      rw [e]
      have d1 : decide (1 ≤ n) = true := decide_eq_true h1
      have d2 : decide (n ≤ 16) = true := decide_eq_true h2
      clear h1 h2 e
      go_enter Tryz.func39, Tryz.ntmps39
      go_wp2_with fail
      go_ret
      exact ⟨rfl, rfl⟩
    · have e : decide (1 ≤ n ∧ n ≤ 16) = false := decide_eq_false fun h => h2 h.2
      rw [e]
      have d1 : decide (1 ≤ n) = true := decide_eq_true h1
      have d2 : decide (n ≤ 16) = false := decide_eq_false h2
      clear h1 h2 e
      go_enter Tryz.func39, Tryz.ntmps39
      go_wp2_with fail
      go_ret
      exact ⟨rfl, rfl⟩
  · have e : decide (1 ≤ n ∧ n ≤ 16) = false := decide_eq_false fun h => h1 h.1
    rw [e]
    have d1 : decide (1 ≤ n) = false := decide_eq_false h1
    clear h1 e
    go_enter Tryz.func39, Tryz.ntmps39
    go_wp2_with fail
    go_ret
    exact ⟨rfl, rfl⟩
set_option maxRecDepth 100000 in
set_option maxHeartbeats 8000000 in
theorem chkp_any (s : ByteArray) (on : Bool) (most : Int) (q : Option Addr) (m d : Nat) (ts : List Tox) (w : World) (hs : s.size ≤ maxLen) (hl : ts.length = m) (hmd : m ≤ d) (hm1 : m ≤ 1000000) (hz : ∀ t ∈ ts, t.s.size ≤ maxLen) (hi : ToxIn w q m ts) :
    Calls Tryz.prog 19 #[.agg #[.string s, .bool on, .int .i64 most, .slice q m d]] w fun e w' => e = .returned (.int .i64 (Nm.chkP ⟨s, on, most, ts⟩)) ∧ Below w.heap.size w w' := by
  have hal : Below w.heap.size w (w.alloc (.cells #[.string s, .bool on, .int .i64 most, .slice q m d] TP)) := (Below.refl _ _).alloc (Nat.le_refl _) _
  have HB := Lib.hid hal
  have HI := Lib.hid (toxs_on hi hal)
  have HL := Lib.hid hl
  have HZ := Lib.hid hz
  have hnew := heap_alloc_new w (.cells #[.string s, .bool on, .int .i64 most, .slice q m d] TP)
  have HNW := Lib.hid hnew
  have c0 := cell_of_row _ _ 0 _ _ _ hnew
  have HNM := Lib.hid (fun W => gx.name_any s W hs)
  have HML := Lib.hid (fun W => maylet_any most W)
  obtain ⟨X, hX⟩ : ∃ X, Nm.chkP ⟨s, on, most, ts⟩ = X := ⟨_, rfl⟩
  have HX := Lib.hid hX
  rw [hX]
  unfold Nm.chkP at HX
  dsimp only at HX
  generalize gx.nameB s = B at *
  clear hnew hal hi hl hz hX
  go_enter Tryz.func19, Tryz.ntmps19
  go_wp2_with fail
  generalize w.alloc (.cells #[.string s, .bool on, .int .i64 most, .slice q m d] TP) = w1 at *
  refine (HNM.out _).mono ?_
  rintro e w2 ⟨rfl, hb2⟩
  have HB2 := Lib.hid (seqB HB.out hb2)
  have HI2 := Lib.hid (toxs_on HI.out hb2)
  have HN2 := Lib.hid ((hb2.block _ (gc.blk_lt HNW.out)).trans HNW.out)
  have c2 := cell_of_row _ _ 2 _ _ _ HN2.out
  clear hb2 c0
  cases B with
  | false =>
    have hx := HX.out
    rw [if_pos rfl] at hx
    subst hx
    clear HX
    go_wp2_with fail
    go_ret
    exact ⟨rfl, HB2.out⟩
  | true =>
    have hx := HX.out
    rw [if_neg (by decide)] at hx
    clear HX HNM HB HI HNW
    go_wp2_with fail
    refine (HML.out _).mono ?_
    rintro e w2' ⟨rfl, rfl⟩
    by_cases h1 : most < 1 ∨ 16 < most
    · rw [if_pos h1] at hx
      subst hx
      rw [show decide (1 ≤ most ∧ most ≤ 16) = false from decide_eq_false (by omega)]
      clear h1
      go_wp2_with fail
      go_ret
      exact ⟨rfl, HB2.out⟩
    · rw [if_neg h1] at hx
      rw [show decide (1 ≤ most ∧ most ≤ 16) = true from decide_eq_true (by omega)]
      rw [HL.out] at hx
      have c3 := cell_of_row _ _ 3 _ _ _ HN2.out
      clear h1 c2 HML
      by_cases h8 : 8 < m
      · rw [if_pos h8] at hx
        subst hx
        have d3 : decide (8 < (m : Int)) = true := decide_eq_true (by omega)
        clear h8
        go_wp2_with fail
        go_ret
        exact ⟨rfl, HB2.out⟩
      · rw [if_neg h8] at hx
        have HX := Lib.hid hx
        clear hx
        have d3 : decide (8 < (m : Int)) = false := decide_eq_false (by omega)
        go_wp2_with fail
        have C3 := Lib.hid (fun (W : World) (hb : Below w2.heap.size w2 W) => cell_of_row _ _ 3 _ _ _ ((hb.block _ (gc.blk_lt HN2.out)).trans HN2.out))
        clear c3 d3
        go_loopw [4, 5, 26] (fun _ _ i wr => ∃ k : Nat, k ≤ m ∧ i = .int .i64 k ∧ Hid (∀ j, j < k → (ts.getD j noTox).chk = 0) ∧ Hid (Below w2.heap.size w2 wr)) (fun _ _ i _ => m - (intOf i).toNat)
        case atStart => exact ⟨0, by omega, rfl, Lib.hid (fun j h => by omega), Lib.hid (Below.refl _ _)⟩
        case round =>
          obtain ⟨k, hk, rfl, HN, HW⟩ := hrel
          by_cases hlt : k < m
          · obtain ⟨b, o, rfl, hc⟩ := toxs_on HI2.out HW.out (by omega)
            obtain ⟨e0, e1, e2, e3, e4, e5⟩ := hc k hlt
            rw [← Nat.add_assoc] at e1 e2 e3 e4 e5
            have hzk := HZ.out (ts.getD k noTox) (by rw [getD_at _ _ (by rw [HL.out]; exact hlt)]; exact List.getElem_mem _)
            have HCK := Lib.hid (fun (hne : (ts.getD k noTox).chk ≠ 0) => Nm.chkL_first HN.out (by rw [HL.out]; exact hlt) hne)
            have HN2 := Lib.hid (fun (he : (ts.getD k noTox).chk = 0) => (show ∀ j, j < k + 1 → (ts.getD j noTox).chk = 0 from fun j hj => by
              rcases Nat.lt_or_ge j k with g | g
              · exact HN.out j g
              · obtain rfl : j = k := by omega
                exact he))
            generalize ts.getD k noTox = tx at *
            obtain ⟨us, uk, uu, uo, ua, ub⟩ := tx
            simp only at e0 e1 e2 e3 e4 e5 hzk
            obtain ⟨w3, hw3⟩ : ∃ w3, wr.alloc (.cells #[.string us, .int .i64 uk, .bool uu, .int .i64 uo, .int .i64 ua, .int .i64 ub] TT) = w3 := ⟨_, rfl⟩
            have HC := Lib.hid (gx.check_any us hzk uk uu uo ua ub w3)
            have HW3 := Lib.hid (HW.out.trans (show Below w2.heap.size wr w3 from by rw [← hw3]; exact ((Below.refl _ _).alloc (Nat.le_refl _) _).mono HW.out.size))
            have HH := Lib.hid hw3
            unfold gx.Chk at HC
            have hchk : (⟨us, uk, uu, uo, ua, ub⟩ : Tox).chk = gx.checkB us uk uo ua ub := rfl
            rw [hchk] at HCK HN2
            generalize gx.checkB us uk uo ua ub = E at *
            clear hc hchk HN hzk hw3
            go_wp2_with fail
            rw [HH.out]
            refine HC.out.mono ?_
            rintro e w4 ⟨rfl, hb⟩
            have HW4 := Lib.hid (seqB HW3.out hb)
            clear hb HC HW e0 e1 e2 e3 e4 e5 HW3 HH
            by_cases hE : E = 0
            · subst hE
              have HN3 := Lib.hid (HN2.out rfl)
              clear HCK HN2
              go_wp2_with fail
              go_roundw
              case rel => exact ⟨k + 1, by omega, by go_num, HN3, HW4⟩
              case measure => simp [intOf]; omega
            · have d4 : (E != 0) = true := by simpa using hE
              have d5 : decide (E = 0) = false := by simpa using hE
              have h1 := HCK.out hE
              have HXX := Lib.hid (show X = E from by have hx := HX.out; rw [h1, if_pos hE] at hx; exact hx.symm)
              have HBB := Lib.hid (seqB HB2.out HW4.out)
              clear h1 hE HCK HN2
              go_wp2_with fail
              go_ret
              exact ⟨by rw [HXX.out]; rfl, HBB.out⟩
          · obtain rfl : m = k := by omega
            have h0 : chkL ts = 0 := Nm.chkL_all fun j hj => HN.out j (by rw [← HL.out]; exact hj)
            have HX2 := Lib.hid (show (if dupB ts = true then (141 : Int) else 0) = X from by have hx := HX.out; rw [h0, if_neg (by decide)] at hx; exact hx)
            have c3 := C3.out _ HW.out
            clear h0 HN HX hlt hk
            have HW1 := Lib.hid HW.out
            clear HW HZ
            go_wp2_with fail
            clear c3
            go_loopw [6, 7, 39] (fun _ _ i wr => ∃ k : Nat, k ≤ m ∧ i = .int .i64 k ∧ Hid (∀ j, j < k → (ts.take j).any (fun x => decide (x.s = (ts.getD j noTox).s)) = false) ∧ Hid (Below w2.heap.size w2 wr)) (fun _ _ i _ => m - (intOf i).toNat)
            case atStart => exact ⟨0, by omega, rfl, Lib.hid (fun j h => by omega), HW1⟩
            case round =>
              clear HW1
              obtain ⟨k, hk, rfl, HN, HW⟩ := hrel
              by_cases hlt : k < m
              · have hiw := toxs_on HI2.out HW.out
                have hlk : (ts.take k).length = k := by rw [List.length_take, HL.out]; omega
                obtain ⟨b, o, rfl, hc⟩ := hiw (by omega)
                obtain ⟨e0, e1, e2, e3, e4, e5⟩ := hc k hlt
                rw [← Nat.add_assoc] at e1 e2 e3 e4 e5
                have HIF := Lib.hid (Nm.find_take (l := ts) (k := k) (by rw [HL.out]; exact hlt))
                have HDY := Lib.hid (fun (h : (ts.take k).any (fun x => decide (x.s = (ts.getD k noTox).s)) = true) => (show dupB ts = true from List.any_eq_true.2 ⟨k, List.mem_range.2 (by rw [HL.out]; exact hlt), h⟩))
                have HN2 := Lib.hid (fun (he : (ts.take k).any (fun x => decide (x.s = (ts.getD k noTox).s)) = false) => (show ∀ j, j < k + 1 → (ts.take j).any (fun x => decide (x.s = (ts.getD j noTox).s)) = false from fun j hj => by
                  rcases Nat.lt_or_ge j k with g | g
                  · exact HN.out j g
                  · obtain rfl : j = k := by omega
                    exact he))
                generalize (ts.take k).any (fun x => decide (x.s = (ts.getD k noTox).s)) = D at *
                have HFZ := Lib.hid (show ∀ W, Below wr.heap.size wr W → Calls Tryz.prog 41 #[.slice (some ⟨b, o, none⟩) k d, .string (ts.getD k noTox).s, .func (.func 42) #[] #[]] W fun e w' => e = .returned (.int .i64 (orNone (Nm.fT (ts.take k) (ts.getD k noTox).s) k)) ∧ Below W.heap.size W w' from fun W hW => whereT_any (some ⟨b, o, none⟩) k d (ts.take k) (ts.getD k noTox).s W hlk (by omega) (toxs_on (toxs_take hiw k hk) hW))
                generalize Nm.fT (ts.take k) (ts.getD k noTox).s = z at *
                generalize ts.getD k noTox = tx at *
                obtain ⟨us, uk, uu, uo, ua, ub⟩ := tx
                simp only at e0 e1 e2 e3 e4 e5 HFZ
                obtain ⟨w3, hw3⟩ : ∃ w3, wr.alloc (.cells #[.string us, .int .i64 uk, .bool uu, .int .i64 uo, .int .i64 ua, .int .i64 ub] TT) = w3 := ⟨_, rfl⟩
                have b3 : Below wr.heap.size wr w3 := by rw [← hw3]; exact (Below.refl _ _).alloc (Nat.le_refl _) _
                have h3 : w3.heap[wr.heap.size]? = some (.cells #[.string us, .int .i64 uk, .bool uu, .int .i64 uo, .int .i64 ua, .int .i64 ub] TT (0, 0)) := by rw [← hw3]; exact heap_alloc_new _ _
                have HW3 := Lib.hid (seqB HW.out b3)
                have HH := Lib.hid hw3
                have HFW := Lib.hid (fun W (hW : Hid (Below w3.heap.size w3 W)) => HFZ.out W (seqB b3 hW.out))
                have HQ := Lib.hid (show ∀ W, Below w3.heap.size w3 W → W.cell? ⟨w.heap.size, 3, none⟩ = some (.slice (some ⟨b, o, none⟩) m d) ∧ W.cell? ⟨wr.heap.size, 0, none⟩ = some (.string us) ∧ Hid (Below w3.heap.size w3 W) from fun W hW => ⟨C3.out _ (seqB HW3.out hW), cell_of_row _ _ 0 _ _ _ ((hW.block _ (gc.blk_lt h3)).trans h3), Lib.hid hW⟩)
                have HQ2 := Lib.hid (show ∀ W W', Hid (Below w3.heap.size w3 W) → Below W.heap.size W W' → W'.cell? ⟨w.heap.size, 3, none⟩ = some (.slice (some ⟨b, o, none⟩) m d) ∧ W'.cell? ⟨wr.heap.size, 0, none⟩ = some (.string us) ∧ Hid (Below w3.heap.size w3 W') from fun W W' h1 h2 => HQ.out W' (seqB h1.out h2))
                clear hc hlk hiw HN b3 h3 HFZ hw3
                by_cases hzk : z < k
                · have hD : D = true := HIF.out.1 hzk
                  have hZ : orNone z k = z := if_pos hzk
                  rw [hZ] at HFW
                  have d1 : decide (0 ≤ (z : Int)) = true := decide_eq_true (by omega)
                  have HXX := Lib.hid (show X = 141 from by have hx := HX2.out; rw [if_pos (HDY.out hD)] at hx; exact hx.symm)
                  clear HN2 HDY HIF hD hZ
                  go_wp2_with fail
                  rw [HH.out]
                  clear e0 e1 e2 e3 e4 e5 HH
                  have hki : (k : Int) ≤ (m : Int) := by omega
                  go_region_held (fun W => W.cell? ⟨w.heap.size, 3, none⟩ = some (.slice (some ⟨b, o, none⟩) m d) ∧ W.cell? ⟨wr.heap.size, 0, none⟩ = some (.string us) ∧ Hid (Below w3.heap.size w3 W))
                    (first
                      | exact HQ.out _ (Below.refl _ _).drew
                      | with_reducible assumption)
                    (first
                      | (go_at_call 41; go_split_ands; (with_reducible refine Calls.mono (HFW.out _ (by assumption)) ?_); rintro e w' ⟨rfl, hb⟩; (have hS := HQ2.out _ _ (by assumption) hb); clear hb))
                  have HD := Lib.hid (seqB HW3.out (show Below w3.heap.size w3 w' from hS.2.2.out))
                  clear hS HQ HQ2 HFW HW3
                  have HBB := Lib.hid (seqB HB2.out HD.out)
                  go_wp2_with fail
                  go_ret
                  exact ⟨by rw [HXX.out]; rfl, HBB.out⟩
                · have hD : D = false := by
                    cases hd : D with
                    | false => rfl
                    | true => exact absurd (HIF.out.2 hd) hzk
                  have hZ : orNone z k = -1 := if_neg hzk
                  rw [hZ] at HFW
                  have HN3 := Lib.hid (HN2.out hD)
                  clear HN2 HDY HIF hD hZ hzk
                  go_wp2_with fail
                  rw [HH.out]
                  clear e0 e1 e2 e3 e4 e5 HH
                  have hki : (k : Int) ≤ (m : Int) := by omega
                  go_region_held (fun W => W.cell? ⟨w.heap.size, 3, none⟩ = some (.slice (some ⟨b, o, none⟩) m d) ∧ W.cell? ⟨wr.heap.size, 0, none⟩ = some (.string us) ∧ Hid (Below w3.heap.size w3 W))
                    (first
                      | exact HQ.out _ (Below.refl _ _).drew
                      | with_reducible assumption)
                    (first
                      | (go_at_call 41; go_split_ands; (with_reducible refine Calls.mono (HFW.out _ (by assumption)) ?_); rintro e w' ⟨rfl, hb⟩; (have hS := HQ2.out _ _ (by assumption) hb); clear hb))
                  have HD := Lib.hid (seqB HW3.out (show Below w3.heap.size w3 w' from hS.2.2.out))
                  clear hS HQ HQ2 HFW HW3
                  go_wp2_with fail
                  go_roundw
                  case rel => exact ⟨k + 1, by omega, by go_num, HN3, HD⟩
                  case measure => simp [intOf]; omega
              · obtain rfl : k = m := by omega
                have HXX := Lib.hid (show X = 0 from by
                  have hx := HX2.out
                  have hd : dupB ts = false := by
                    unfold dupB
                    rw [List.any_eq_false]
                    intro j hj hh
                    have := HN.out j (by rw [← HL.out]; exact List.mem_range.1 hj)
                    rw [this] at hh
                    cases hh
                  rw [hd, if_neg (by decide)] at hx
                  exact hx.symm)
                have HBB := Lib.hid (seqB HB2.out HW.out)
                clear HN
                go_wp2_with fail
                go_ret
                exact ⟨by rw [HXX.out]; rfl, HBB.out⟩
end Go.Proofs.YtmghkcjljnlocaaGreatDoor

/-
  Contract: Check of the document, of a proxy. Conditions: as it states.
-/
import Derived.Test.YtmghkcjljnlocaaGreatDoorND
import Derived.Deep.Cut
namespace Go.Proofs.YtmghkcjljnlocaaGreatDoor
open Go.RowKit
namespace Nm
theorem chkL_first {l : List Tox} {k : Nat} (h : ∀ j, j < k → (l.getD j noTox).chk = 0) (hk : k < l.length) (hc : (l.getD k noTox).chk ≠ 0) : chkL l = (l.getD k noTox).chk := by
  induction l generalizing k with
  | nil => exact absurd hk (Nat.not_lt_zero _)
  | cons a r ih =>
    unfold chkL
    cases k with
    | zero => exact if_pos hc
    | succ k =>
      have h0 : a.chk = 0 := h 0 (Nat.zero_lt_succ _)
      rw [if_neg (by omega)]
      exact ih (fun j hj => h (j + 1) (by omega)) (by simpa using hk) hc
theorem chkL_all {l : List Tox} (h : ∀ j, j < l.length → (l.getD j noTox).chk = 0) : chkL l = 0 := (chkL_iff l).2 fun t ht => by
  obtain ⟨j, hj, rfl⟩ := List.getElem_of_mem ht
  have := h j hj
  rwa [List.getD_eq_getElem?_getD, List.getElem?_eq_getElem hj] at this
theorem find_take {l : List Tox} {k : Nat} (hk : k < l.length) : fT (l.take k) (l.getD k noTox).s < k ↔ ((l.take k).any fun x => decide (x.s = (l.getD k noTox).s)) = true := by
  have hl : (l.take k).length = k := by rw [List.length_take]; omega
  rw [List.any_eq_true]
  have h := fnd_lt (key := Tox.s) (l := l.take k) (s := (l.getD k noTox).s)
  rw [hl] at h
  refine h.trans ⟨fun ⟨x, hx, e⟩ => ⟨x, hx, decide_eq_true e⟩, fun ⟨x, hx, e⟩ => ⟨x, hx, of_decide_eq_true e⟩⟩
end Nm
theorem toxs_take {w : World} {p : Option Addr} {n : Nat} {l : List Tox} (h : ToxIn w p n l) (k : Nat) (hk : k ≤ n) : ToxIn w p k (l.take k) := fun hn => by
  obtain ⟨b, o, e, hc⟩ := h (by omega)
  refine ⟨b, o, e, fun i hi => ?_⟩
  have : (l.take k).getD i noTox = l.getD i noTox := by
    rw [List.getD_eq_getElem?_getD, List.getD_eq_getElem?_getD, List.getElem?_take, if_pos hi]
  rw [this]
  exact hc i (by omega)
set_option maxRecDepth 100000 in
set_option maxHeartbeats 8000000 in
theorem rchk_any (s : ByteArray) (on : Bool) (most : Int) (q : Option Addr) (m d : Nat) (ts : List Tox) (w : World) (hs : s.size ≤ maxLen) (hl : ts.length = m) (hmd : m ≤ d) (hz : ∀ t ∈ ts, t.s.size ≤ maxLen) (hi : ToxIn w q m ts) :
    Calls Tryz.prog 20 #[.agg #[.string s, .bool on, .int .i64 most, .slice q m d]] w fun e w' => e = .returned (.int .i64 (Nm.chkP ⟨s, on, most, ts⟩)) ∧ Below w.heap.size w w' := by
  have hal : Below w.heap.size w (w.alloc (.cells #[.string s, .bool on, .int .i64 most, .slice q m d] 37)) := (Below.refl _ _).alloc (Nat.le_refl _) _
  have HB := Lib.hid hal
  have HI := Lib.hid (toxs_on hi hal)
  have HL := Lib.hid hl
  have HZ := Lib.hid hz
  have hnew := heap_alloc_new w (.cells #[.string s, .bool on, .int .i64 most, .slice q m d] 37)
  have c0 := cell_of_row _ _ 0 _ _ _ hnew
  have c2 := cell_of_row _ _ 2 _ _ _ hnew
  have c3 := cell_of_row _ _ 3 _ _ _ hnew
  have HNM := Lib.hid (fun W => gx.rname_any s hs W)
  obtain ⟨X, hX⟩ : ∃ X, Nm.chkP ⟨s, on, most, ts⟩ = X := ⟨_, rfl⟩
  have HX := Lib.hid hX
  rw [hX]
  unfold Nm.chkP at HX
  dsimp only at HX
  generalize gx.nameB s = B at *
  clear hnew hal hi hl hz hX
  go_enter Tryz.func20, Tryz.ntmps20
  go_wp2_with fail
  generalize w.alloc (.cells #[.string s, .bool on, .int .i64 most, .slice q m d] 37) = w1 at *
  refine (HNM.out _).mono ?_
  rintro e w2 ⟨rfl, rfl⟩
  cases B with
  | false =>
    have hx := HX.out
    rw [if_pos rfl] at hx
    subst hx
    clear HX
    go_wp2_with fail
    go_ret
    exact ⟨rfl, HB.out⟩
  | true =>
    have hx := HX.out
    rw [if_neg (by decide)] at hx
    clear HX HNM
    by_cases h1 : most < 1 ∨ 16 < most
    · rw [if_pos h1] at hx
      subst hx
      by_cases h2 : most < 1
      · have d1 : decide (most < 1) = true := decide_eq_true h2
        clear h1 h2
        go_wp2_with fail
        go_ret
        exact ⟨rfl, HB.out⟩
      · have d1 : decide (most < 1) = false := decide_eq_false h2
        have d2 : decide (16 < most) = true := decide_eq_true (by omega)
        clear h1 h2
        go_wp2_with fail
        go_ret
        exact ⟨rfl, HB.out⟩
    · rw [if_neg h1] at hx
      have d1 : decide (most < 1) = false := decide_eq_false (by omega)
      have d2 : decide (16 < most) = false := decide_eq_false (by omega)
      rw [HL.out] at hx
      clear h1
      by_cases h8 : 8 < m
      · rw [if_pos h8] at hx
        subst hx
        have d3 : decide (8 < (m : Int)) = true := decide_eq_true (by omega)
        clear h8
        go_wp2_with fail
        go_ret
        exact ⟨rfl, HB.out⟩
      · rw [if_neg h8] at hx
        have HX := Lib.hid hx
        clear hx
        have d3 : decide (8 < (m : Int)) = false := decide_eq_false (by omega)
        go_wp2_with fail
        have C3 := Lib.hid (fun (W : World) (hb : Below w1.heap.size w1 W) => (hb.cell (World.block_lt_of_cell? w1 _ c3)).trans c3)
        clear c0 c2 c3 d1 d2
        go_loopw [3, 4] (fun i _ wr => ∃ k : Nat, k ≤ m ∧ i = .int .i64 k ∧ Hid (∀ j, j < k → (ts.getD j noTox).chk = 0) ∧ Hid (Below w1.heap.size w1 wr)) (fun i _ _ => m - (intOf i).toNat)
        case atStart => exact ⟨0, by omega, rfl, Lib.hid (fun j h => by omega), Lib.hid (Below.refl _ _)⟩
        case round =>
          obtain ⟨k, hk, rfl, HN, HW⟩ := hrel
          have c3 := C3.out _ HW.out
          by_cases hlt : k < m
          · obtain ⟨b, o, rfl, hc⟩ := toxs_on HI.out HW.out (by omega)
            obtain ⟨e0, e1, e2, e3, e4, e5⟩ := hc k hlt
            rw [← Nat.add_assoc] at e1 e2 e3 e4 e5
            have hzk := HZ.out (ts.getD k noTox) (by rw [List.getD_eq_getElem?_getD, List.getElem?_eq_getElem (by rw [HL.out]; exact hlt)]; exact List.getElem_mem _)
            have HCK := Lib.hid (fun (hne : (ts.getD k noTox).chk ≠ 0) => Nm.chkL_first HN.out (by rw [HL.out]; exact hlt) hne)
            have HN2 := Lib.hid (fun (he : (ts.getD k noTox).chk = 0) => (show ∀ j, j < k + 1 → (ts.getD j noTox).chk = 0 from fun j hj => by
              rcases Nat.lt_or_ge j k with g | g
              · exact HN.out j g
              · obtain rfl : j = k := by omega
                exact he))
            generalize ts.getD k noTox = tx at *
            obtain ⟨us, uk, uu, uo, ua, ub⟩ := tx
            simp only at e0 e1 e2 e3 e4 e5 hzk
            have HC := Lib.hid (gx.rcheck_any us hzk uk uu uo ua ub wr)
            unfold gx.Chk at HC
            have hchk : (⟨us, uk, uu, uo, ua, ub⟩ : Tox).chk = gx.checkB us uk uo ua ub := rfl
            rw [hchk] at HCK HN2
            generalize gx.checkB us uk uo ua ub = E at *
            clear hc hchk HN hzk
            go_wp2_with fail
            refine HC.out.mono ?_
            rintro e w3 ⟨rfl, hb⟩
            have HW3 := Lib.hid (HW.out.trans (hb.mono HW.out.size))
            have c3' := C3.out _ HW3.out
            clear hb HC HW c3 e0 e1 e2 e3 e4 e5
            by_cases hE : E = 0
            · subst hE
              have HN3 := Lib.hid (HN2.out rfl)
              clear HCK HN2
              go_wp2_with fail
              go_roundw
              case rel => exact ⟨k + 1, by omega, by go_num, HN3, HW3⟩
              case measure => simp [intOf]; omega
            · have d4 : (E != 0) = true := by simpa using hE
              have d5 : decide (E = 0) = false := by simpa using hE
              have h1 := HCK.out hE
              have HXX := Lib.hid (show X = E from by have hx := HX.out; rw [h1, if_pos hE] at hx; exact hx.symm)
              have HBB := Lib.hid (HB.out.trans (HW3.out.mono HB.out.size))
              clear h1 hE HCK HN2
              go_wp2_with fail
              go_ret
              exact ⟨by rw [HXX.out]; rfl, HBB.out⟩
          · obtain rfl : m = k := by omega
            have h0 : chkL ts = 0 := Nm.chkL_all fun j hj => HN.out j (by rw [← HL.out]; exact hj)
            have HX2 := Lib.hid (show (if dupB ts = true then (141 : Int) else 0) = X from by have hx := HX.out; rw [h0, if_neg (by decide)] at hx; exact hx)
            clear h0 HN HX hlt hk
            have HW1 := Lib.hid HW.out
            clear HW HZ
            go_wp2_with fail
            clear c3
            go_loopw [5] (fun i wr => ∃ k : Nat, k ≤ m ∧ i = .int .i64 k ∧ Hid (∀ j, j < k → (ts.take j).any (fun x => decide (x.s = (ts.getD j noTox).s)) = false) ∧ Hid (Below w1.heap.size w1 wr)) (fun i _ => m - (intOf i).toNat)
            case atStart => exact ⟨0, by omega, rfl, Lib.hid (fun j h => by omega), HW1⟩
            case round =>
              clear HW1
              obtain ⟨k, hk, rfl, HN, HW⟩ := hrel
              have c3 := C3.out _ HW.out
              by_cases hlt : k < m
              · have hiw := toxs_on HI.out HW.out
                have hlk : (ts.take k).length = k := by rw [List.length_take, HL.out]; omega
                obtain ⟨b, o, rfl, hc⟩ := hiw (by omega)
                obtain ⟨e0, -⟩ := hc k hlt
                have HF := Lib.hid (fun n => rfind_any (some ⟨b, o, none⟩) k d (ts.take k) (ts.getD k noTox).s (wr.drewN n) hlk (by omega) (toxs_on (toxs_take hiw k hk) (nbelow_drewN wr n)))
                have HIF := Lib.hid (Nm.find_take (l := ts) (k := k) (by rw [HL.out]; exact hlt))
                have HDY := Lib.hid (fun (h : (ts.take k).any (fun x => decide (x.s = (ts.getD k noTox).s)) = true) => (show dupB ts = true from List.any_eq_true.2 ⟨k, List.mem_range.2 (by rw [HL.out]; exact hlt), h⟩))
                have HN2 := Lib.hid (fun (he : (ts.take k).any (fun x => decide (x.s = (ts.getD k noTox).s)) = false) => (show ∀ j, j < k + 1 → (ts.take j).any (fun x => decide (x.s = (ts.getD j noTox).s)) = false from fun j hj => by
                  rcases Nat.lt_or_ge j k with g | g
                  · exact HN.out j g
                  · obtain rfl : j = k := by omega
                    exact he))
                have HWN := Lib.hid (fun n => HW.out.trans ((nbelow_drewN wr n).mono HW.out.size))
                generalize (ts.take k).any (fun x => decide (x.s = (ts.getD k noTox).s)) = D at *
                generalize Nm.fT (ts.take k) (ts.getD k noTox).s = z at *
                generalize (ts.getD k noTox).s = us at *
                clear hc hlk hiw HN
                by_cases hzk : z < k
                · have hD : D = true := HIF.out.1 hzk
                  have hZ : orNone z k = z := if_pos hzk
                  rw [hZ] at HF
                  have d1 : decide (0 ≤ (z : Int)) = true := decide_eq_true (by omega)
                  have HXX := Lib.hid (show X = 141 from by have hx := HX2.out; rw [if_pos (HDY.out hD)] at hx; exact hx.symm)
                  clear HN2 HDY HIF hD hZ
                  go_wp2_with fail
                  go_quiet ((go_at_call 45; exact nquiet_left (HF.out _)))
                  have HBB := Lib.hid (HB.out.trans ((HWN.out nq).mono HB.out.size))
                  clear HF HWN
                  go_wp2_with fail
                  go_ret
                  exact ⟨by rw [HXX.out]; rfl, HBB.out⟩
                · have hD : D = false := by
                    cases hd : D with
                    | false => rfl
                    | true => exact absurd (HIF.out.2 hd) hzk
                  have hZ : orNone z k = -1 := if_neg hzk
                  rw [hZ] at HF
                  have HN3 := Lib.hid (HN2.out hD)
                  clear HN2 HDY HIF hD hZ hzk
                  go_wp2_with fail
                  go_quiet ((go_at_call 45; exact nquiet_left (HF.out _)))
                  have HW3 := Lib.hid (HWN.out nq)
                  clear HF HWN
                  go_wp2_with fail
                  go_roundw
                  case rel => exact ⟨k + 1, by omega, by go_num, HN3, HW3⟩
                  case measure => simp [intOf]; omega
              · obtain rfl : k = m := by omega
                have HXX := Lib.hid (show X = 0 from by
                  have hx := HX2.out
                  have hd : dupB ts = false := by
                    unfold dupB
                    rw [List.any_eq_false]
                    intro j hj hh
                    have := HN.out j (by rw [← HL.out]; exact List.mem_range.1 hj)
                    rw [this] at hh
                    cases hh
                  rw [hd, if_neg (by decide)] at hx
                  exact hx.symm)
                have HBB := Lib.hid (HB.out.trans (HW.out.mono HB.out.size))
                clear HN
                go_wp2_with fail
                go_ret
                exact ⟨by rw [HXX.out]; rfl, HBB.out⟩
end Go.Proofs.YtmghkcjljnlocaaGreatDoor

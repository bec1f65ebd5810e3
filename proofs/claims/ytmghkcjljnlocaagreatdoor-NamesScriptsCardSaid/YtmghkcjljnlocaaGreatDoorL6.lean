/-
  The document's Do; what came in, opened; 'chicanelaw14.NamesScripts' returns true. Conditions: as each states.
-/
import Derived.Test.YtmghkcjljnlocaaGreatDoorL3
import Derived.Test.YtmghkcjljnlocaaGreatDoorQA
import Derived.Test.YtmghkcjljnlocaaGreatDoorPZ
import Derived.Test.YtmghkcjljnlocaaGreatDoorPH
import Derived.Test.YtmghkcjljnlocaaGreatDoorR
namespace Go.Proofs.YtmghkcjljnlocaaGreatDoor
open Go.RowKit
set_option maxRecDepth 100000 in
set_option maxHeartbeats 16000000 in
theorem radd_any (p : Option Addr) (n d : Nat) (l : List Prx) (O : NOp) (w : World) (hs : O.s.size ≤ maxLen) (hl : l.length = n) (hn : n ≤ 1000000) (hnd : n ≤ d) (hi : PrxIn w p n l) :
    Calls Tryz.prog 31 #[.slice p n d, nopV O] w (OutR (Nm.addL l O).1 (Nm.addL l O).2 w) := by
  obtain ⟨w1, hw1⟩ : ∃ w1, w.alloc (nopC O) = w1 := ⟨_, rfl⟩
  have hb1 : Below w.heap.size w w1 := by rw [← hw1]; exact (Below.refl _ _).alloc (Nat.le_refl _) _
  have h1 : w1.heap[w.heap.size]? = some (nopC O) := by rw [← hw1]; exact heap_alloc_new _ _
  obtain ⟨x0, x1, x2, x3, x4, x5, x6, x7, x8, x9, x10⟩ := nop_at h1
  have HI := Lib.hid (prxs_on hi hb1)
  have HB1 := Lib.hid hb1
  have HL := Lib.hid hl
  have HNM := Lib.hid (fun W => gx.rname_any O.s hs W)
  have HF := Lib.hid (rFind_any p n d l O.s w1 hl (by omega) (prxs_on hi hb1))
  have HSA := Lib.hid (fun er => out_r (er := er) (c := d) HL.out hnd HI.out HB1.out)
  obtain ⟨X, hX⟩ : ∃ X, Nm.addL l O = X := ⟨_, rfl⟩
  rw [hX]
  unfold Nm.addL at hX
  rw [hl] at hX
  have HX := Lib.hid hX
  unfold nopC at hw1
  unfold nopV
  have HW := Lib.hid hw1
  generalize gx.nameB O.s = B at *
  clear hw1 hb1 h1 hi hl hs hX
  go_enter Tryz.func31, Tryz.ntmps31
  go_wp2_with fail
  rw [HW.out]
  refine (HNM.out _).mono ?_
  rintro e w2 ⟨rfl, rfl⟩
  cases B with
  | false =>
    have hx := HX.out
    rw [if_pos rfl] at hx
    subst hx
    clear HX
    go_wp2_with fail
    go_ret2
    exact HSA.out _
  | true =>
    have hx := HX.out
    rw [if_neg (by decide)] at hx
    clear HX HNM
    by_cases hf : Nm.fP l O.s < n
    · rw [if_pos hf] at hx
      subst hx
      have e1 : orNone (Nm.fP l O.s) n = (Nm.fP l O.s : Int) := if_pos hf
      rw [e1] at HF
      generalize Nm.fP l O.s = K at *
      have d1 : decide ((0 : Int) ≤ (K : Int)) = true := decide_eq_true (by omega)
      clear e1 hf
      go_wp2_with fail
      refine HF.out.mono ?_
      rintro e w3 ⟨rfl, rfl⟩
      go_wp2_with fail
      go_ret2
      exact HSA.out _
    · rw [if_neg hf] at hx
      have e1 : orNone (Nm.fP l O.s) n = -1 := if_neg hf
      rw [e1] at HF
      clear e1 hf
      by_cases h1 : O.n < 1 ∨ 16 < O.n
      · rw [if_pos h1] at hx
        subst hx
        by_cases h2 : O.n < 1
        · have d1 : decide (O.n < 1) = true := decide_eq_true h2
          clear h1 h2
          go_wp2_with fail
          refine HF.out.mono ?_
          rintro e w3 ⟨rfl, rfl⟩
          go_wp2_with fail
          go_ret2
          exact HSA.out _
        · have d1 : decide (O.n < 1) = false := decide_eq_false h2
          have d2 : decide (16 < O.n) = true := decide_eq_true (by omega)
          clear h1 h2
          go_wp2_with fail
          refine HF.out.mono ?_
          rintro e w3 ⟨rfl, rfl⟩
          go_wp2_with fail
          go_ret2
          exact HSA.out _
      · rw [if_neg h1] at hx
        have d1 : decide (O.n < 1) = false := decide_eq_false (by omega)
        have d2 : decide (16 < O.n) = false := decide_eq_false (by omega)
        clear h1
        by_cases h8 : 8 ≤ n
        · rw [if_pos h8] at hx
          subst hx
          have d3 : decide ((8 : Int) ≤ (n : Int)) = true := decide_eq_true (by omega)
          go_wp2_with fail
          refine HF.out.mono ?_
          rintro e w3 ⟨rfl, rfl⟩
          go_wp2_with fail
          go_ret2
          exact HSA.out _
        · rw [if_neg h8] at hx
          subst hx
          have d3 : decide ((8 : Int) ≤ (n : Int)) = false := decide_eq_false (by omega)
          have HP := Lib.hid (put_any p n d l O.s true O.n w1 HL.out (by omega) HI.out)
          have hlen : (Nm.putL l ⟨O.s, true, O.n, []⟩).length = n + 1 := by rw [Nm.put_length, HL.out]
          have HLP := Lib.hid hlen
          generalize Nm.putL l ⟨O.s, true, O.n, []⟩ = L at *
          clear hlen h8 HSA
          go_wp2_with fail
          refine HF.out.mono ?_
          rintro e w3 ⟨rfl, rfl⟩
          go_wp2_with fail
          refine HP.out.mono ?_
          rintro e w4 ⟨q, c, rfl, hcp, hp, hb⟩
          have HO := Lib.hid (out_r (er := 0) HLP.out hcp hp (seqB HB1.out hb))
          clear hp hb hcp
          go_wp2_with fail
          go_ret2
          exact HO.out
set_option maxRecDepth 100000 in
set_option maxHeartbeats 16000000 in
theorem rdoNo_any (p : Option Addr) (n d : Nat) (l : List Prx) (O : NOp) (w : World) (hr : ¬ Nm.Right l) (hl : l.length = n) (hn : n ≤ 1000000) (_ : n ≤ d) (hz : Lean14 l) (hi : PrxIn w p n l) :
    Calls Tryz.prog 13 #[.slice p n d, nopV O] w (OutR (Nm.doP l O).1 (Nm.doP l O).2 w) := by
  obtain ⟨w1, hw1⟩ : ∃ w1, w.alloc (nopC O) = w1 := ⟨_, rfl⟩
  have hb1 : Below w.heap.size w w1 := by rw [← hw1]; exact (Below.refl _ _).alloc (Nat.le_refl _) _
  have h1 : w1.heap[w.heap.size]? = some (nopC O) := by rw [← hw1]; exact heap_alloc_new _ _
  have HOB := Lib.hid (fun W (hW : Below w1.heap.size w1 W) => nop_at ((hW.block _ (gc.blk_lt h1)).trans h1))
  have HI := Lib.hid (prxs_on hi hb1)
  have HB1 := Lib.hid hb1
  have HL := Lib.hid hl
  have hR := rright_any p n d l w1 hl (by omega) hz (prxs_on hi hb1)
  rw [right_no hr] at hR
  obtain ⟨X, hX⟩ : ∃ X, Nm.doP l O = X := ⟨_, rfl⟩
  rw [hX]
  rw [doP_no hr] at hX
  have HX := Lib.hid hX
  clear hX
  have HR := Lib.hid hR
  unfold nopC at hw1
  unfold nopV
  have HW := Lib.hid hw1
  clear hw1 hb1 h1 hi hl hz hR
  clear hr
  go_enter Tryz.func13, Tryz.ntmps13
  go_wp2_with fail
  rw [HW.out]
  refine HR.out.mono ?_
  rintro e w2 ⟨rfl, hb⟩
  have HB2 := Lib.hid hb
  clear hb
  obtain ⟨x0, x1, x2, x3, x4, x5, x6, x7, x8, x9, x10⟩ := HOB.out _ HB2.out
  have HI2 := Lib.hid (prxs_on HI.out HB2.out)
  have HBB := Lib.hid (seqB HB1.out HB2.out)
  have HO := Lib.hid (fun er => out_r (l := []) (er := er) (c := 0) rfl (Nat.le_refl _) (show PrxIn w2 none 0 [] from fun h => absurd h (Nat.lt_irrefl _)) HBB.out)
  by_cases h6 : O.kind = 6
  · have hx := HX.out
    rw [if_pos h6] at hx
    subst hx
    have kk6 : (O.kind == 6) = true := by simpa using h6
    clear h6 HX
    go_wp2_with fail
    go_ret2
    exact HO.out _
  · have hx := HX.out
    rw [if_neg h6] at hx
    subst hx
    have kk6 : (O.kind == 6) = false := by simpa using h6
    clear h6 HX
    go_wp2_with fail
    go_ret2
    exact HO.out _
set_option maxRecDepth 100000 in
set_option maxHeartbeats 16000000 in
theorem rdoAdd_any (p : Option Addr) (n d : Nat) (l : List Prx) (O : NOp) (w : World) (hk : O.kind = 0) (hr : Nm.Right l) (hs : O.s.size ≤ maxLen) (hl : l.length = n) (hn : n ≤ 1000000) (hnd : n ≤ d) (hz : Lean14 l) (hi : PrxIn w p n l) :
    Calls Tryz.prog 13 #[.slice p n d, nopV O] w (OutR (Nm.doP l O).1 (Nm.doP l O).2 w) := by
  obtain ⟨w1, hw1⟩ : ∃ w1, w.alloc (nopC O) = w1 := ⟨_, rfl⟩
  have hb1 : Below w.heap.size w w1 := by rw [← hw1]; exact (Below.refl _ _).alloc (Nat.le_refl _) _
  have h1 : w1.heap[w.heap.size]? = some (nopC O) := by rw [← hw1]; exact heap_alloc_new _ _
  have HOB := Lib.hid (fun W (hW : Below w1.heap.size w1 W) => nop_at ((hW.block _ (gc.blk_lt h1)).trans h1))
  have HI := Lib.hid (prxs_on hi hb1)
  have HB1 := Lib.hid hb1
  have HL := Lib.hid hl
  have hR := rright_any p n d l w1 hl (by omega) hz (prxs_on hi hb1)
  rw [right_yes hr] at hR
  have h8 : n ≤ 8 := by rw [← hl]; exact hr.few
  rw [doP_yes hr]
  have hX : Nm.doR l O = Nm.addL l O := if_pos hk
  rw [hX]
  have HA := Lib.hid (fun W (hW : Below w1.heap.size w1 W) => radd_any p n d l O W hs hl hn hnd (prxs_on (prxs_on hi hb1) hW))
  have kk0 : (O.kind == 0) = true := by simpa using (show O.kind = 0 by omega)
  clear hX hk
  generalize Nm.addL l O = X at *
  have HR := Lib.hid hR
  unfold nopC at hw1
  unfold nopV
  have HW := Lib.hid hw1
  clear hw1 hb1 h1 hi hl hz hR
  unfold nopV at HA
  clear hr hs
  go_enter Tryz.func13, Tryz.ntmps13
  go_wp2_with fail
  rw [HW.out]
  refine HR.out.mono ?_
  rintro e w2 ⟨rfl, hb⟩
  have HB2 := Lib.hid hb
  clear hb
  obtain ⟨x0, x1, x2, x3, x4, x5, x6, x7, x8, x9, x10⟩ := HOB.out _ HB2.out
  have HI2 := Lib.hid (prxs_on HI.out HB2.out)
  have HBB := Lib.hid (seqB HB1.out HB2.out)
  go_wp2_with fail
  refine (HA.out _ HB2.out).mono ?_
  rintro e w3 ⟨q, m, c, rfl, hlen, hcp, hp, hb⟩
  have HO := Lib.hid (out_r (er := X.2) hlen hcp hp (seqB HBB.out hb))
  clear hb hlen hp hcp
  go_wp2_with fail
  go_ret2
  exact HO.out
set_option maxRecDepth 100000 in
set_option maxHeartbeats 16000000 in
theorem rdoReset_any (p : Option Addr) (n d : Nat) (l : List Prx) (O : NOp) (w : World) (hk : O.kind = 6) (hr : Nm.Right l) (hl : l.length = n) (hn : n ≤ 1000000) (hnd : n ≤ d) (hz : Lean14 l) (hi : PrxIn w p n l) :
    Calls Tryz.prog 13 #[.slice p n d, nopV O] w (OutR (Nm.doP l O).1 (Nm.doP l O).2 w) := by
  obtain ⟨w1, hw1⟩ : ∃ w1, w.alloc (nopC O) = w1 := ⟨_, rfl⟩
  have hb1 : Below w.heap.size w w1 := by rw [← hw1]; exact (Below.refl _ _).alloc (Nat.le_refl _) _
  have h1 : w1.heap[w.heap.size]? = some (nopC O) := by rw [← hw1]; exact heap_alloc_new _ _
  have HOB := Lib.hid (fun W (hW : Below w1.heap.size w1 W) => nop_at ((hW.block _ (gc.blk_lt h1)).trans h1))
  have HI := Lib.hid (prxs_on hi hb1)
  have HB1 := Lib.hid hb1
  have HL := Lib.hid hl
  have hR := rright_any p n d l w1 hl (by omega) hz (prxs_on hi hb1)
  rw [right_yes hr] at hR
  have h8 : n ≤ 8 := by rw [← hl]; exact hr.few
  rw [doP_yes hr]
  have hX : Nm.doR l O = (l.map reset1, 0) := by
    unfold Nm.doR
    rw [if_neg (by omega), if_pos hk]
    rfl
  rw [hX]
  have kk0 : (O.kind == 0) = false := by simpa using (show O.kind ≠ 0 by omega)
  have kk6 : (O.kind == 6) = true := by simpa using (show O.kind = 6 by omega)
  clear hX hk
  have HR := Lib.hid hR
  unfold nopC at hw1
  unfold nopV
  have HW := Lib.hid hw1
  clear hw1 hb1 h1 hi hl hz hR
  clear hr
  go_enter Tryz.func13, Tryz.ntmps13
  go_wp2_with fail
  rw [HW.out]
  refine HR.out.mono ?_
  rintro e w2 ⟨rfl, hb⟩
  have HB2 := Lib.hid hb
  clear hb
  obtain ⟨x0, x1, x2, x3, x4, x5, x6, x7, x8, x9, x10⟩ := HOB.out _ HB2.out
  have HI2 := Lib.hid (prxs_on HI.out HB2.out)
  have HBB := Lib.hid (seqB HB1.out HB2.out)
  obtain ⟨q, dq, w3, zs, r1, r2, r3, r4, r5⟩ := own_prx (w := w2) (d := d) HL.out (by omega) HI2.out
  have HRR := Lib.hid r1
  have HS := Lib.hid r2
  have HZ := Lib.hid r3
  have HTX := Lib.hid (fun z hz => (r4 z hz).on r5)
  have HB3 := Lib.hid (seqB HBB.out r5)
  have HI3 := Lib.hid (prxs_on HI2.out r5)
  have HB23 := Lib.hid (seqB HB2.out r5)
  have HB2W := Lib.hid r5
  clear r1 r2 r3 r4 r5
  obtain ⟨y0, y1, y2, y3, y4, y5, y6, y7, y8, y9, y10⟩ := HOB.out _ HB23.out
  go_wp2_with (at_builtin; refine Lib.wpList_append_run _ rfl _ _ _ _ rfl (.slice (some ⟨w2.heap.size, 0, none⟩) 0 0) (.slice p n d) rfl rfl _ _ (HRR.out _) ?_)
  go_loopw [7] (fun i wr => ∃ k : Nat, k ≤ n ∧ i = .int .i64 k ∧ Hid (∃ zs', SRow wr w2.heap.size q n dq zs' ∧ zs'.map (·.x) = (l.take k).map reset1 ++ l.drop k) ∧ Hid (Below w2.heap.size w2 wr)) (fun i _ => n - (intOf i).toNat)
  case atStart => exact ⟨0, by omega, rfl, Lib.hid ⟨zs, HS.out, by rw [HZ.out]; simp⟩, HB2W⟩
  case round =>
    obtain ⟨k, hk, rfl, HO, HB⟩ := hrel
    obtain ⟨ys, hy, he⟩ := HO.out
    by_cases hlt : k < n
    · have hyl := hy.len
      obtain ⟨b, o, rfl, hcc⟩ := hy.prx (by omega)
      obtain ⟨j0, j1, j2, qt, mt, dt, j3, -⟩ := hcc k hlt
      rw [← Nat.add_assoc] at j1 j2 j3
      have hg : (ys.map (·.x)).getD k noPrx = l.getD k noPrx := by
        rw [he, List.getD_eq_getElem?_getD, List.getD_eq_getElem?_getD, List.getElem?_append_right (by rw [List.length_map, List.length_take, HL.out]; omega), List.getElem?_drop]
        congr 2
        rw [List.length_map, List.length_take, HL.out]
        omega
      rw [hg] at j0 j1 j2
      have hkl : k < l.length := by rw [HL.out]; exact hlt
      have hge : l.getD k noPrx = l[k] := getD_at _ _ hkl
      obtain ⟨bb, oo, cur, e', hb0, hh, _⟩ := hy.row.som _ rfl
      cases e'
      have f0 : wr.frozen? ⟨b, o + k * 4, none⟩ = false := gc.frozen_at hh
      have f1 : wr.frozen? ⟨b, o + k * 4 + 1, none⟩ = false := gc.frozen_at hh
      have f2 : wr.frozen? ⟨b, o + k * 4 + 2, none⟩ = false := gc.frozen_at hh
      have f3 : wr.frozen? ⟨b, o + k * 4 + 3, none⟩ = false := gc.frozen_at hh
      have hsp := hy.set hlt ⟨reset1 (l.getD k noPrx), none, 0, 0⟩ ⟨Nat.le_refl _, rfl, fun h => absurd h (Nat.lt_irrefl _)⟩ (fun h => absurd h (Nat.lt_irrefl _))
      have hmap : (ys.set k ⟨reset1 (l.getD k noPrx), none, 0, 0⟩).map (·.x) = (l.take (k + 1)).map reset1 ++ l.drop (k + 1) := by
        rw [List.map_set, he, List.set_append, if_neg (by rw [List.length_map, List.length_take, HL.out]; omega), List.take_succ_eq_append_getElem hkl, List.map_append, List.append_assoc, hge]
        congr 1
        rw [show k - ((l.take k).map reset1).length = 0 by rw [List.length_map, List.length_take, HL.out]; omega, List.drop_eq_getElem_cons hkl]
        rfl
      have hbs : Below w2.heap.size wr (wr.setCells b (o + k * 4) (RP.cells ⟨reset1 (l.getD k noPrx), none, 0, 0⟩)) := by
        have hg5 := gc.setCells_grown wr b (o + k * 4) (RP.cells ⟨reset1 (l.getD k noPrx), none, 0, 0⟩)
        exact ⟨hg5.os, hg5.tape, hg5.output, hg5.size, fun i hi => hg5.block i (Nat.lt_of_lt_of_le hi HB.out.size) fun e => by injection e with e; omega⟩
      have HO2 := Lib.hid (show ∃ zs', SRow (wr.setCells b (o + k * 4) (RP.cells ⟨reset1 (l.getD k noPrx), none, 0, 0⟩)).drew w2.heap.size (some ⟨b, o, none⟩) n dq zs' ∧ zs'.map (·.x) = (l.take (k + 1)).map reset1 ++ l.drop (k + 1) from ⟨_, hsp.on (Below.refl _ _).drew, hmap⟩)
      have HBN := Lib.hid (HB.out.trans hbs).drew
      have hki : (k : Int) < (n : Int) := by omega
      clear hcc hg hge hh hb0 hsp hmap hbs hy he hkl hyl HO
      generalize l.getD k noPrx = x at *
      obtain ⟨xs, xon, xm, xt⟩ := x
      unfold reset1 RP.cells at HO2 HBN
      dsimp only at j0 j1 j2 HO2 HBN
      go_wp2_with fail
      go_region
      go_wp2_with fail
      go_roundw
      case rel => exact ⟨k + 1, by omega, by go_num, HO2, HBN⟩
      case measure => simp [intOf]; omega
    · obtain rfl : k = n := by omega
      have HOO := Lib.hid (out_r (l := l.map reset1) (er := 0) (c := dq) (by rw [List.length_map, HL.out]) hy.row.cap (show PrxIn wr q k (l.map reset1) from by
        have h := hy.prx
        rwa [he, List.take_of_length_le (by rw [HL.out]; exact Nat.le_refl _), List.drop_of_length_le (by rw [HL.out]; exact Nat.le_refl _), List.append_nil] at h) (seqB HBB.out HB.out))
      clear hy he HO
      go_wp2_with fail
      go_ret2
      exact HOO.out
set_option maxRecDepth 100000 in
set_option maxHeartbeats 16000000 in
theorem rdoDrop_any (p : Option Addr) (n d : Nat) (l : List Prx) (O : NOp) (w : World) (hk : O.kind = 1) (hr : Nm.Right l) (hl : l.length = n) (hn : n ≤ 1000000) (hnd : n ≤ d) (hz : Lean14 l) (hi : PrxIn w p n l) :
    Calls Tryz.prog 13 #[.slice p n d, nopV O] w (OutR (Nm.doP l O).1 (Nm.doP l O).2 w) := by
  obtain ⟨w1, hw1⟩ : ∃ w1, w.alloc (nopC O) = w1 := ⟨_, rfl⟩
  have hb1 : Below w.heap.size w w1 := by rw [← hw1]; exact (Below.refl _ _).alloc (Nat.le_refl _) _
  have h1 : w1.heap[w.heap.size]? = some (nopC O) := by rw [← hw1]; exact heap_alloc_new _ _
  have HOB := Lib.hid (fun W (hW : Below w1.heap.size w1 W) => nop_at ((hW.block _ (gc.blk_lt h1)).trans h1))
  have HI := Lib.hid (prxs_on hi hb1)
  have HB1 := Lib.hid hb1
  have HL := Lib.hid hl
  have hR := rright_any p n d l w1 hl (by omega) hz (prxs_on hi hb1)
  rw [right_yes hr] at hR
  have h8 : n ≤ 8 := by rw [← hl]; exact hr.few
  rw [doP_yes hr]
  obtain ⟨X, hX⟩ : ∃ X, Nm.doR l O = X := ⟨_, rfl⟩
  rw [hX]
  unfold Nm.doR at hX
  rw [if_neg (by omega), if_neg (by omega)] at hX
  dsimp only at hX
  rw [if_pos hk] at hX
  have HX := Lib.hid hX
  have kk0 : (O.kind == 0) = false := by simpa using (show O.kind ≠ 0 by omega)
  have kk1 : (O.kind == 1) = true := by simpa using (show O.kind = 1 by omega)
  have kk2 : (O.kind == 2) = false := by simpa using (show O.kind ≠ 2 by omega)
  have kk6 : (O.kind == 6) = false := by simpa using (show O.kind ≠ 6 by omega)
  clear hX hk
  have HR := Lib.hid hR
  unfold nopC at hw1
  unfold nopV
  have HW := Lib.hid hw1
  clear hw1 hb1 h1 hi hl hz hR
  clear hr
  go_enter Tryz.func13, Tryz.ntmps13
  go_wp2_with fail
  rw [HW.out]
  refine HR.out.mono ?_
  rintro e w2 ⟨rfl, hb⟩
  have HB2 := Lib.hid hb
  clear hb
  obtain ⟨x0, x1, x2, x3, x4, x5, x6, x7, x8, x9, x10⟩ := HOB.out _ HB2.out
  have HI2 := Lib.hid (prxs_on HI.out HB2.out)
  have HBB := Lib.hid (seqB HB1.out HB2.out)
  obtain ⟨q, dq, w3, zs, r1, r2, r3, r4, r5⟩ := own_prx (w := w2) (d := d) HL.out (by omega) HI2.out
  have HRR := Lib.hid r1
  have HS := Lib.hid r2
  have HZ := Lib.hid r3
  have HTX := Lib.hid (fun z hz => (r4 z hz).on r5)
  have HB3 := Lib.hid (seqB HBB.out r5)
  have HI3 := Lib.hid (prxs_on HI2.out r5)
  have HB23 := Lib.hid (seqB HB2.out r5)
  clear r1 r2 r3 r4 r5
  obtain ⟨y0, y1, y2, y3, y4, y5, y6, y7, y8, y9, y10⟩ := HOB.out _ HB23.out
  have HF := Lib.hid (rFind_any p n d l O.s w3 HL.out (by omega) HI3.out)
  by_cases hf : Nm.fP l O.s < n
  · have e1 : orNone (Nm.fP l O.s) n = (Nm.fP l O.s : Int) := if_pos hf
    have hx := HX.out
    rw [if_neg (by rw [HL.out]; exact fun g => g hf)] at hx
    rw [e1] at HF
    generalize Nm.fP l O.s = K at *
    have d2 : decide ((K : Int) < 0) = false := decide_eq_false (by omega)
    have hKi : (K : Int) < (n : Int) := by omega
    clear e1 HX
    subst hx
    obtain ⟨zl, hz1, hz2, hz3⟩ := prx_zs HL.out HI3.out
    obtain ⟨b, o, rfl, _⟩ := HI3.out (by omega)
    obtain ⟨i0, hi0, hq0, hq1, hq2⟩ := info_parts infoP
    obtain ⟨q1, d1, w5, r1, r2⟩ := row_cut (w := w3) (k := K) (d := d) Tryz.underlying22 hi0 hq0 hq1 hq2 rfl (by decide) hz2 hf (flatP_one _) (by omega) (by decide)
    have hkw : IntKind.i64.wrap ((K : Int) + 1) = (K : Int) + 1 := wrapN_id (by omega) (by omega)
    have HR1 := Lib.hid r1
    have hcut : (flatP zl).take (K * 4) ++ (flatP zl).drop ((K + 1) * 4) = flatP (zl.take K ++ zl.drop (K + 1)) := by
      unfold flatP
      rw [flat_take pc_len, flat_drop pc_len, List.flatMap_append]
    have hmap : (zl.take K ++ zl.drop (K + 1)).map (·.x) = l.take K ++ l.drop (K + 1) := by rw [List.map_append, ← hz1, List.map_take, List.map_drop]
    have hlen : (l.take K ++ l.drop (K + 1)).length = K + (n - (K + 1)) := by
      have := HL.out
      rw [List.length_append, List.length_take, List.length_drop]
      omega
    have hout : ∀ {q2 : Option Addr} {c2 : Nat} {w2' : World}, gc.ORow w2' w3.heap.size TP 4 q2 (K + (n - (K + 1))) c2 ((flatP zl).take (K * 4) ++ (flatP zl).drop ((K + 1) * 4)) → Below w3.heap.size w3 w2' → OutR (l.take K ++ l.drop (K + 1)) 0 w (.returned (.tuple #[.slice q2 (K + (n - (K + 1))) c2, .int .i64 0])) w2' := fun {q2 c2 w2'} ho hb => by
      rw [hcut] at ho
      refine out_r hlen ho.cap (rd_prx hmap ⟨ho.len, fun hn => ho.at hn⟩ fun z hz => (hz3 z ?_).on hb) (seqB HB3.out hb)
      rcases List.mem_append.1 hz with h | h
      · exact List.mem_of_mem_take h
      · exact List.mem_of_mem_drop h
    by_cases hkc : d = K + 1
    · obtain ⟨q2, d2', w6, s1, s2, s3⟩ := r2 ⟨b, o, none⟩ (d - (K + 1)) (Or.inl (by omega))
      have HO := Lib.hid (hout s2 s3)
      obtain rfl : n = K + 1 := by omega
      subst hkc
      rw [Nat.sub_self] at s1 HO
      have HR2 := Lib.hid s1
      clear r1 r2 s1 s2 s3 hi0 hq0 hq1 hq2 hlen hout hcut hmap hz1 hz2 hz3 HTX HS HZ
      go_wp2_with (at_builtin; refine Lib.wpList_append_run _ rfl _ _ _ _ rfl (.slice (some ⟨w2.heap.size, 0, none⟩) 0 0) (.slice (some ⟨b, o, none⟩) (K + 1) (K + 1)) rfl rfl _ _ (HRR.out _) ?_)
      refine HF.out.mono ?_
      rintro e w9 ⟨rfl, rfl⟩
      go_wp2_with fail
      go_region_held_law (fun _ => True)
        (trivial)
        (first
          | (refine step_append_eq rfl (.tmp 62) (.tmp 65) 22 22 rfl (.slice (some ⟨w3.heap.size, 0, none⟩) 0 0) (.slice (some ⟨b, o, none⟩) K (K + 1)) rfl rfl HR1.out ?_)
          | (refine step_append_eq rfl (.tmp 66) (.tmp 70) 22 22 rfl (.slice q1 K d1) (.slice (some ⟨b, o, none⟩) 0 0) rfl rfl HR2.out ?_))
      all_goals
        simp only [List.getElem_toArray, List.getElem_cons_succ, List.getElem_cons_zero]
        go_wp2_with fail
        go_ret2
        exact HO.out
    · obtain ⟨q2, d2', w6, s1, s2, s3⟩ := r2 ⟨b, o + (K + 1) * 4, none⟩ (d - (K + 1)) (Or.inr rfl)
      have HO := Lib.hid (hout s2 s3)
      have HR2 := Lib.hid s1
      clear r1 r2 s1 s2 s3 hi0 hq0 hq1 hq2 hlen hout hcut hmap hz1 hz2 hz3 HTX HS HZ
      go_wp2_with (at_builtin; refine Lib.wpList_append_run _ rfl _ _ _ _ rfl (.slice (some ⟨w2.heap.size, 0, none⟩) 0 0) (.slice (some ⟨b, o, none⟩) n d) rfl rfl _ _ (HRR.out _) ?_)
      refine HF.out.mono ?_
      rintro e w9 ⟨rfl, rfl⟩
      go_wp2_with fail
      go_region_held_law (fun _ => True)
        (trivial)
        (first
          | (refine step_append_eq rfl (.tmp 62) (.tmp 65) 22 22 rfl (.slice (some ⟨w3.heap.size, 0, none⟩) 0 0) (.slice (some ⟨b, o, none⟩) K d) rfl rfl HR1.out ?_)
          | (refine step_append_eq rfl (.tmp 66) (.tmp 70) 22 22 rfl (.slice q1 K d1) (.slice (some ⟨b, o + (K + 1) * 4, none⟩) (n - (K + 1)) (d - (K + 1))) rfl rfl HR2.out ?_))
      all_goals
        simp only [List.getElem_toArray, List.getElem_cons_succ, List.getElem_cons_zero]
        go_wp2_with fail
        go_ret2
        exact HO.out
  · have e1 : orNone (Nm.fP l O.s) n = -1 := if_neg hf
    have hx := HX.out
    rw [if_pos (by rw [HL.out]; exact hf)] at hx
    subst hx
    rw [e1] at HF
    have HO := Lib.hid (out_r (er := 142) (c := d) HL.out hnd HI3.out HB3.out)
    clear hf e1 HX
    go_wp2_with (at_builtin; refine Lib.wpList_append_run _ rfl _ _ _ _ rfl (.slice (some ⟨w2.heap.size, 0, none⟩) 0 0) (.slice p n d) rfl rfl _ _ (HRR.out _) ?_)
    refine HF.out.mono ?_
    rintro e w4 ⟨rfl, rfl⟩
    go_wp2_with fail
    go_ret2
    exact HO.out
set_option maxRecDepth 100000 in
set_option maxHeartbeats 16000000 in
theorem rdoSwitch_any (p : Option Addr) (n d : Nat) (l : List Prx) (O : NOp) (w : World) (hk : O.kind = 2) (hr : Nm.Right l) (hl : l.length = n) (hn : n ≤ 1000000) (hnd : n ≤ d) (hz : Lean14 l) (hi : PrxIn w p n l) :
    Calls Tryz.prog 13 #[.slice p n d, nopV O] w (OutR (Nm.doP l O).1 (Nm.doP l O).2 w) := by
  obtain ⟨w1, hw1⟩ : ∃ w1, w.alloc (nopC O) = w1 := ⟨_, rfl⟩
  have hb1 : Below w.heap.size w w1 := by rw [← hw1]; exact (Below.refl _ _).alloc (Nat.le_refl _) _
  have h1 : w1.heap[w.heap.size]? = some (nopC O) := by rw [← hw1]; exact heap_alloc_new _ _
  have HOB := Lib.hid (fun W (hW : Below w1.heap.size w1 W) => nop_at ((hW.block _ (gc.blk_lt h1)).trans h1))
  have HI := Lib.hid (prxs_on hi hb1)
  have HB1 := Lib.hid hb1
  have HL := Lib.hid hl
  have hR := rright_any p n d l w1 hl (by omega) hz (prxs_on hi hb1)
  rw [right_yes hr] at hR
  have h8 : n ≤ 8 := by rw [← hl]; exact hr.few
  rw [doP_yes hr]
  obtain ⟨X, hX⟩ : ∃ X, Nm.doR l O = X := ⟨_, rfl⟩
  rw [hX]
  unfold Nm.doR at hX
  rw [if_neg (by omega), if_neg (by omega)] at hX
  dsimp only at hX
  rw [if_neg (by omega : ¬ O.kind = 1), if_pos hk] at hX
  have HX := Lib.hid hX
  have kk0 : (O.kind == 0) = false := by simpa using (show O.kind ≠ 0 by omega)
  have kk1 : (O.kind == 1) = false := by simpa using (show O.kind ≠ 1 by omega)
  have kk2 : (O.kind == 2) = true := by simpa using (show O.kind = 2 by omega)
  have kk6 : (O.kind == 6) = false := by simpa using (show O.kind ≠ 6 by omega)
  clear hX hk
  have HR := Lib.hid hR
  unfold nopC at hw1
  unfold nopV
  have HW := Lib.hid hw1
  clear hw1 hb1 h1 hi hl hz hR
  clear hr
  go_enter Tryz.func13, Tryz.ntmps13
  go_wp2_with fail
  rw [HW.out]
  refine HR.out.mono ?_
  rintro e w2 ⟨rfl, hb⟩
  have HB2 := Lib.hid hb
  clear hb
  obtain ⟨x0, x1, x2, x3, x4, x5, x6, x7, x8, x9, x10⟩ := HOB.out _ HB2.out
  have HI2 := Lib.hid (prxs_on HI.out HB2.out)
  have HBB := Lib.hid (seqB HB1.out HB2.out)
  obtain ⟨q, dq, w3, zs, r1, r2, r3, r4, r5⟩ := own_prx (w := w2) (d := d) HL.out (by omega) HI2.out
  have HRR := Lib.hid r1
  have HS := Lib.hid r2
  have HZ := Lib.hid r3
  have HTX := Lib.hid (fun z hz => (r4 z hz).on r5)
  have HB3 := Lib.hid (seqB HBB.out r5)
  have HI3 := Lib.hid (prxs_on HI2.out r5)
  have HB23 := Lib.hid (seqB HB2.out r5)
  have HB2W := Lib.hid r5
  clear r1 r2 r3 r4 r5
  obtain ⟨y0, y1, y2, y3, y4, y5, y6, y7, y8, y9, y10⟩ := HOB.out _ HB23.out
  have HF := Lib.hid (rFind_any p n d l O.s w3 HL.out (by omega) HI3.out)
  by_cases hf : Nm.fP l O.s < n
  · have e1 : orNone (Nm.fP l O.s) n = (Nm.fP l O.s : Int) := if_pos hf
    have hx := HX.out
    rw [if_neg (by rw [HL.out]; exact fun g => g hf)] at hx
    rw [e1] at HF
    generalize Nm.fP l O.s = K at *
    have d2 : decide ((K : Int) < 0) = false := decide_eq_false (by omega)
    have hKi : (K : Int) < (n : Int) := by omega
    clear e1 HX
    subst hx
    obtain ⟨b, o, rfl, hcc⟩ := HS.out.prx (by omega)
    obtain ⟨j0, j1, j2, -⟩ := hcc K hf
    have hzl := HS.out.len
    obtain ⟨bb, oo, cur, e', hb0, hh, _⟩ := HS.out.row.som _ rfl
    cases e'
    have hge : zs.getD K noRP = zs[K]'(by omega) := getD_at _ _ (by omega)
    have hgx : (zs.getD K noRP).x = l.getD K noPrx := by
      rw [hge, ← HZ.out, getD_at _ _ (by rw [List.length_map]; omega), List.getElem_map]
    rw [← Nat.add_assoc] at j1
    have f1 : w3.frozen? ⟨b, o + K * 4 + 1, none⟩ = false := gc.frozen_at hh
    have hsp := HS.out.set1 hf (j := 1) (by decide) ⟨{ (zs.getD K noRP).x with on := O.on }, (zs.getD K noRP).q, (zs.getD K noRP).m, (zs.getD K noRP).d⟩ (.bool O.on) rfl (by
      have h := HS.out.tox _ (show zs.getD K noRP ∈ zs from by rw [hge]; exact List.getElem_mem _)
      exact ⟨h.cap, h.len, h.rd⟩) (fun hm a ha => HS.out.far _ (show zs.getD K noRP ∈ zs from by rw [hge]; exact List.getElem_mem _) hm a _ ha rfl)
    have hpx := hsp.prx
    rw [List.map_set, HZ.out, hgx, ← Nat.add_assoc] at hpx
    have HO := Lib.hid (out_r (er := 0) (c := dq) (by rw [List.length_set, HL.out]) hsp.row.cap hpx (seqB HBB.out (show Below w2.heap.size w2 (w3.setCell ⟨b, o + K * 4 + 1, none⟩ (.bool O.on)) from HB2W.out.setCell (p := ⟨b, o + K * 4 + 1, none⟩) hb0 _)))
    clear hcc hh hb0 hge hgx hsp hpx hzl HTX HZ HS
    go_wp2_with (at_builtin; refine Lib.wpList_append_run _ rfl _ _ _ _ rfl (.slice (some ⟨w2.heap.size, 0, none⟩) 0 0) (.slice p n d) rfl rfl _ _ (HRR.out _) ?_)
    refine HF.out.mono ?_
    rintro e w9 ⟨rfl, rfl⟩
    go_wp2_with fail
    go_ret2
    exact HO.out
  · have e1 : orNone (Nm.fP l O.s) n = -1 := if_neg hf
    have hx := HX.out
    rw [if_pos (by rw [HL.out]; exact hf)] at hx
    subst hx
    rw [e1] at HF
    have HO := Lib.hid (out_r (er := 142) (c := d) HL.out hnd HI3.out HB3.out)
    clear hf e1 HX
    go_wp2_with (at_builtin; refine Lib.wpList_append_run _ rfl _ _ _ _ rfl (.slice (some ⟨w2.heap.size, 0, none⟩) 0 0) (.slice p n d) rfl rfl _ _ (HRR.out _) ?_)
    refine HF.out.mono ?_
    rintro e w4 ⟨rfl, rfl⟩
    go_wp2_with fail
    go_ret2
    exact HO.out
theorem rtoxics_any (q : Option Addr) (m d : Nat) (l : List Tox) (O : NOp) (w : World) (hk : O.kind = 3 ∨ O.kind = 4 ∨ O.kind = 5) (hs : O.t.s.size ≤ maxLen) (hl : l.length = m) (hmd : m ≤ d) (hm : m ≤ 900) (hi : ToxIn w q m l) :
    Calls Tryz.prog 32 #[.slice q m d, nopV O] w (OutTx q m (Nm.toxL l O).1 (Nm.toxL l O).2 w) := by
  by_cases hE : O.t.chk = 0
  · rcases hk with h | h | h
    · exact tox3_any q m d l O w h hE hs hl hmd hm hi
    · exact tox4_any q m d l O w h hl hmd hm hi
    · exact tox5_any q m d l O w h hE hs hl hmd hm hi
  · rcases hk with h | h | h
    · exact toxbad_any q m d l O w (Or.inl h) hE hs hl hmd hm hi
    · exact tox4_any q m d l O w h hl hmd hm hi
    · exact toxbad_any q m d l O w (Or.inr h) hE hs hl hmd hm hi
set_option maxRecDepth 100000 in
set_option maxHeartbeats 16000000 in
theorem rdoTox_any (p : Option Addr) (n d : Nat) (l : List Prx) (O : NOp) (w : World) (hk : O.kind = 3 ∨ O.kind = 4 ∨ O.kind = 5) (hr : Nm.Right l) (hs : O.t.s.size ≤ maxLen) (hl : l.length = n) (hn : n ≤ 1000000) (hnd : n ≤ d) (hz : Lean14 l) (hi : PrxIn w p n l) :
    Calls Tryz.prog 13 #[.slice p n d, nopV O] w (OutR (Nm.doP l O).1 (Nm.doP l O).2 w) := by
  obtain ⟨w1, hw1⟩ : ∃ w1, w.alloc (nopC O) = w1 := ⟨_, rfl⟩
  have hb1 : Below w.heap.size w w1 := by rw [← hw1]; exact (Below.refl _ _).alloc (Nat.le_refl _) _
  have h1 : w1.heap[w.heap.size]? = some (nopC O) := by rw [← hw1]; exact heap_alloc_new _ _
  have HOB := Lib.hid (fun W (hW : Below w1.heap.size w1 W) => nop_at ((hW.block _ (gc.blk_lt h1)).trans h1))
  have HI := Lib.hid (prxs_on hi hb1)
  have HB1 := Lib.hid hb1
  have HL := Lib.hid hl
  have hR := rright_any p n d l w1 hl (by omega) hz (prxs_on hi hb1)
  rw [right_yes hr] at hR
  have h8 : n ≤ 8 := by rw [← hl]; exact hr.few
  rw [doP_yes hr]
  obtain ⟨X, hX⟩ : ∃ X, Nm.doR l O = X := ⟨_, rfl⟩
  rw [hX]
  unfold Nm.doR at hX
  rw [if_neg (by omega), if_neg (by omega)] at hX
  dsimp only at hX
  rw [if_neg (by omega : ¬ O.kind = 1), if_neg (by omega : ¬ O.kind = 2)] at hX
  have HX := Lib.hid hX
  have kk0 : (O.kind == 0) = false := by simpa using (show O.kind ≠ 0 by omega)
  have kk1 : (O.kind == 1) = false := by simpa using (show O.kind ≠ 1 by omega)
  have kk2 : (O.kind == 2) = false := by simpa using (show O.kind ≠ 2 by omega)
  have kk6 : (O.kind == 6) = false := by simpa using (show O.kind ≠ 6 by omega)
  have HTK := Lib.hid (fun q m d ts W (h1 : ts.length = m) (h2 : m ≤ d) (h3 : m ≤ 900) (h4 : ToxIn W q m ts) => rtoxics_any q m d ts O W hk hs h1 h2 h3 h4)
  have HM8 := Lib.hid (fun x (hx : x ∈ l) => ((Nm.chkP_iff x).1 (hr.each x hx)).2.2.2.1)
  clear hX hk
  have HR := Lib.hid hR
  unfold nopC at hw1
  unfold nopV
  have HW := Lib.hid hw1
  clear hw1 hb1 h1 hi hl hz hR
  unfold nopV at HTK
  clear hr hs
  go_enter Tryz.func13, Tryz.ntmps13
  go_wp2_with fail
  rw [HW.out]
  refine HR.out.mono ?_
  rintro e w2 ⟨rfl, hb⟩
  have HB2 := Lib.hid hb
  clear hb
  obtain ⟨x0, x1, x2, x3, x4, x5, x6, x7, x8, x9, x10⟩ := HOB.out _ HB2.out
  have HI2 := Lib.hid (prxs_on HI.out HB2.out)
  have HBB := Lib.hid (seqB HB1.out HB2.out)
  obtain ⟨q, dq, w3, zs, r1, r2, r3, r4, r5⟩ := own_prx (w := w2) (d := d) HL.out (by omega) HI2.out
  have HRR := Lib.hid r1
  have HS := Lib.hid r2
  have HZ := Lib.hid r3
  have HTX := Lib.hid (fun z hz => (r4 z hz).on r5)
  have HB3 := Lib.hid (seqB HBB.out r5)
  have HI3 := Lib.hid (prxs_on HI2.out r5)
  have HB23 := Lib.hid (seqB HB2.out r5)
  have HB2W := Lib.hid r5
  clear r1 r2 r3 r4 r5
  obtain ⟨y0, y1, y2, y3, y4, y5, y6, y7, y8, y9, y10⟩ := HOB.out _ HB23.out
  have HF := Lib.hid (rFind_any p n d l O.s w3 HL.out (by omega) HI3.out)
  by_cases hf : Nm.fP l O.s < n
  · have e1 : orNone (Nm.fP l O.s) n = (Nm.fP l O.s : Int) := if_pos hf
    have hx := HX.out
    rw [if_neg (by rw [HL.out]; exact fun g => g hf)] at hx
    rw [e1] at HF
    generalize Nm.fP l O.s = K at *
    have d2 : decide ((K : Int) < 0) = false := decide_eq_false (by omega)
    have hKi : (K : Int) < (n : Int) := by omega
    clear e1 HX
    obtain ⟨b, o, rfl, hcc⟩ := HS.out.prx (by omega)
    obtain ⟨j0, j1, j2, -⟩ := hcc K hf
    have hzl := HS.out.len
    obtain ⟨bb, oo, cur, e', hb0, hh, _⟩ := HS.out.row.som _ rfl
    cases e'
    have hge : zs.getD K noRP = zs[K]'(by omega) := getD_at _ _ (by omega)
    have hgx : (zs.getD K noRP).x = l.getD K noPrx := by
      rw [hge, ← HZ.out, getD_at _ _ (by rw [List.length_map]; omega), List.getElem_map]
    have hzm : zs.getD K noRP ∈ zs := by rw [hge]; exact List.getElem_mem _
    have hzt := HS.out.tox _ hzm
    have hzf := HS.out.far _ hzm
    have hm8 : (zs.getD K noRP).m ≤ 8 := by
      rw [← hzt.len, hgx]
      exact HM8.out _ (by rw [getD_at _ _ (by rw [HL.out]; exact hf)]; exact List.getElem_mem _)
    obtain ⟨b', o', e', hc4⟩ := HS.out.rd.2 (by omega)
    cases e'
    have j3 := hc4 (K * 4 + 3) _ (by unfold flatP; rw [flat_get pc_len zs K (by omega) 3 (by decide)]; rfl)
    rw [← hge, ← Nat.add_assoc] at j3
    have HZK := Lib.hid hgx
    rw [← hgx] at hx
    generalize hzz : zs.getD K noRP = z at *
    obtain ⟨x, zq, zm, zd⟩ := z
    dsimp only at hzt hzf hm8 j3 hx HZK
    have HTO := Lib.hid (HTK.out zq zm zd x.ts w3.drew hzt.len hzt.cap (by omega) (toxs_on hzt.rd (Below.refl _ _).drew))
    subst hx
    generalize (Nm.toxL x.ts O).1 = L at *
    generalize (Nm.toxL x.ts O).2 = E at *
    have HQ := Lib.hid (show ∀ W, Below w3.heap.size w3 W → W.cell? ⟨b, o + K * 4 + 3, none⟩ = some (.slice zq zm zd) ∧ W.cell? ⟨w.heap.size, 0, none⟩ = some (.int .i64 O.kind) ∧ W.cell? ⟨w.heap.size, 1, none⟩ = some (.int .i64 O.n) ∧ W.cell? ⟨w.heap.size, 2, none⟩ = some (.string O.s) ∧ W.cell? ⟨w.heap.size, 3, none⟩ = some (.string O.x) ∧ W.cell? ⟨w.heap.size, 4, none⟩ = some (.bool O.on) ∧
        W.cell? ⟨w.heap.size, 5, none⟩ = some (.string O.t.s) ∧ W.cell? ⟨w.heap.size, 6, none⟩ = some (.int .i64 O.t.k) ∧ W.cell? ⟨w.heap.size, 7, none⟩ = some (.bool O.t.up) ∧ W.cell? ⟨w.heap.size, 8, none⟩ = some (.int .i64 O.t.o) ∧ W.cell? ⟨w.heap.size, 9, none⟩ = some (.int .i64 O.t.a) ∧ W.cell? ⟨w.heap.size, 10, none⟩ = some (.int .i64 O.t.b) from fun W hW =>
      ⟨(hW.cell (World.block_lt_of_cell? w3 _ j3)).trans j3, HOB.out W (seqB HB23.out hW)⟩)
    have HZT := Lib.hid hzt
    have HZF := Lib.hid hzf
    have HH := Lib.hid hh
    have HB0 := Lib.hid hb0
    have HZL := Lib.hid hzl
    have HZZ := Lib.hid hzz
    clear hcc hge hgx hzm hzt hzf hm8 hc4 hh hb0 hzl hzz HTX HM8 HTK j0 j1 j2
    go_wp2_with (at_builtin; refine Lib.wpList_append_run _ rfl _ _ _ _ rfl (.slice (some ⟨w2.heap.size, 0, none⟩) 0 0) (.slice p n d) rfl rfl _ _ (HRR.out _) ?_)
    refine HF.out.mono ?_
    rintro e w9 ⟨rfl, rfl⟩
    go_wp2_with fail
    go_region_held (fun W => W.cell? ⟨b, o + K * 4 + 3, none⟩ = some (.slice zq zm zd) ∧ W.cell? ⟨w.heap.size, 0, none⟩ = some (.int .i64 O.kind) ∧ W.cell? ⟨w.heap.size, 1, none⟩ = some (.int .i64 O.n) ∧ W.cell? ⟨w.heap.size, 2, none⟩ = some (.string O.s) ∧ W.cell? ⟨w.heap.size, 3, none⟩ = some (.string O.x) ∧ W.cell? ⟨w.heap.size, 4, none⟩ = some (.bool O.on) ∧
        W.cell? ⟨w.heap.size, 5, none⟩ = some (.string O.t.s) ∧ W.cell? ⟨w.heap.size, 6, none⟩ = some (.int .i64 O.t.k) ∧ W.cell? ⟨w.heap.size, 7, none⟩ = some (.bool O.t.up) ∧ W.cell? ⟨w.heap.size, 8, none⟩ = some (.int .i64 O.t.o) ∧ W.cell? ⟨w.heap.size, 9, none⟩ = some (.int .i64 O.t.a) ∧ W.cell? ⟨w.heap.size, 10, none⟩ = some (.int .i64 O.t.b))
      (first
        | exact HQ.out _ (Below.refl _ _).drew
        | with_reducible assumption)
      (first
        | (go_at_call 32; (with_reducible refine Calls.mono HTO.out ?_); rintro e w7 ⟨tq, tm, td, rfl, ht1, ht2, ht3, ht4, hb⟩; (have HB7 := Lib.hid (show Below w3.heap.size w3 w7 from seqB (Below.refl _ _).drew hb)); (have hS := HQ.out w7 HB7.out); (have HT := Lib.hid (⟨ht1, ht2, ht3, ht4⟩ : L.length = tm ∧ tm ≤ td ∧ ToxIn w7 tq tm L ∧ ((tq = zq ∧ tm = zm) ∨ ∀ a, tq = some a → ∃ cur, w7.heap[a.block]? = some (.cells cur TT (0, 0))))); clear hb ht1 ht2 ht3 ht4))
    have j3 := hS.1
    have hh7 := (HB7.out.block _ (gc.blk_lt HH.out)).trans HH.out
    have f3 : w7.frozen? ⟨b, o + K * 4 + 3, none⟩ = false := gc.frozen_at hh7
    have hsp := (HS.out.on HB7.out).set1 hf (j := 3) (by decide) ⟨{ x with ts := L }, tq, tm, td⟩ (.slice tq tm td) (by rw [HZZ.out]; rfl) ⟨HT.out.2.1, HT.out.1, HT.out.2.2.1⟩ (fun hm a ha e => by
      rcases HT.out.2.2.2 with ⟨e1, e2⟩ | h
      · have ha : tq = some a := ha
        have hm : 0 < tm := hm
        rw [e1] at ha
        rw [e2] at hm
        exact HZF.out hm a _ ha rfl e
      · obtain ⟨cu, hcu⟩ := h a ha
        rw [e, hh7] at hcu
        injection hcu with hcu
        injection hcu with _ hcu
        exact absurd hcu (by decide))
    have hpx := hsp.prx
    rw [List.map_set, HZ.out, ← Nat.add_assoc] at hpx
    have HO := Lib.hid (out_r (er := E) (c := dq) (by rw [List.length_set, HL.out]) hsp.row.cap hpx (seqB HBB.out ((HB2W.out.trans (HB7.out.mono HB2W.out.size)).setCell (p := ⟨b, o + K * 4 + 3, none⟩) HB0.out (.slice tq tm td))))
    clear hS hh7 hsp hpx
    go_wp2_with fail
    go_ret2
    exact HO.out
  · have e1 : orNone (Nm.fP l O.s) n = -1 := if_neg hf
    have hx := HX.out
    rw [if_pos (by rw [HL.out]; exact hf)] at hx
    subst hx
    rw [e1] at HF
    have HO := Lib.hid (out_r (er := 142) (c := d) HL.out hnd HI3.out HB3.out)
    clear hf e1 HX
    go_wp2_with (at_builtin; refine Lib.wpList_append_run _ rfl _ _ _ _ rfl (.slice (some ⟨w2.heap.size, 0, none⟩) 0 0) (.slice p n d) rfl rfl _ _ (HRR.out _) ?_)
    refine HF.out.mono ?_
    rintro e w4 ⟨rfl, rfl⟩
    go_wp2_with fail
    go_ret2
    exact HO.out
theorem right_lean {l : List Prx} (h : Nm.Right l) : Lean14 l ∧ l.length ≤ 8 := by
  refine ⟨fun x hx => ?_, h.few⟩
  obtain ⟨h1, _, _, h4, h5, _⟩ := (Nm.chkP_iff x).1 (h.each x hx)
  have := name_small h1
  exact ⟨by unfold maxLen; omega, by omega, fun t ht => by have := tox_small (h5 t ht); unfold maxLen; omega⟩
theorem rdo_any (p : Option Addr) (n d : Nat) (l : List Prx) (O : NOp) (w : World) (hf : O.Fit) (hl : l.length = n) (hn : n ≤ 1000000) (hnd : n ≤ d) (hz : Lean14 l) (hi : PrxIn w p n l) :
    Calls Tryz.prog 13 #[.slice p n d, nopV O] w (OutR (Nm.doP l O).1 (Nm.doP l O).2 w) := by
  have hs : O.s.size ≤ maxLen := by have := hf.s; unfold maxLen; omega
  have ht : O.t.s.size ≤ maxLen := by have := hf.t; unfold maxLen; omega
  by_cases hr : Nm.Right l
  · have hc : O.kind = 0 ∨ O.kind = 1 ∨ O.kind = 2 ∨ (O.kind = 3 ∨ O.kind = 4 ∨ O.kind = 5) ∨ O.kind = 6 := by
      have := hf.lo
      have := hf.hi
      omega
    rcases hc with h | h | h | h | h
    · exact rdoAdd_any p n d l O w h hr hs hl hn hnd hz hi
    · exact rdoDrop_any p n d l O w h hr hl hn hnd hz hi
    · exact rdoSwitch_any p n d l O w h hr hl hn hnd hz hi
    · exact rdoTox_any p n d l O w h hr ht hl hn hnd hz hi
    · exact rdoReset_any p n d l O w h hr hl hn hnd hz hi
  · exact rdoNo_any p n d l O w hr hl hn hnd hz hi
def noOp : NOp := ⟨0, 0, ⟨#[]⟩, ⟨#[]⟩, false, noTox⟩
/-- Calls in a slice. -/
def OpsIn (w : World) (p : Option Addr) (n : Nat) (l : List NOp) : Prop := 0 < n → ∃ b o, p = some ⟨b, o, none⟩ ∧ ∀ i, i < n →
  w.cell? ⟨b, o + i * 11, none⟩ = some (.int .i64 (l.getD i noOp).kind) ∧ w.cell? ⟨b, o + (i * 11 + 1), none⟩ = some (.int .i64 (l.getD i noOp).n) ∧ w.cell? ⟨b, o + (i * 11 + 2), none⟩ = some (.string (l.getD i noOp).s) ∧ w.cell? ⟨b, o + (i * 11 + 3), none⟩ = some (.string (l.getD i noOp).x) ∧ w.cell? ⟨b, o + (i * 11 + 4), none⟩ = some (.bool (l.getD i noOp).on) ∧
  w.cell? ⟨b, o + (i * 11 + 5), none⟩ = some (.string (l.getD i noOp).t.s) ∧ w.cell? ⟨b, o + (i * 11 + 6), none⟩ = some (.int .i64 (l.getD i noOp).t.k) ∧ w.cell? ⟨b, o + (i * 11 + 7), none⟩ = some (.bool (l.getD i noOp).t.up) ∧ w.cell? ⟨b, o + (i * 11 + 8), none⟩ = some (.int .i64 (l.getD i noOp).t.o) ∧ w.cell? ⟨b, o + (i * 11 + 9), none⟩ = some (.int .i64 (l.getD i noOp).t.a) ∧ w.cell? ⟨b, o + (i * 11 + 10), none⟩ = some (.int .i64 (l.getD i noOp).t.b)
theorem ops_on {w w' : World} {p : Option Addr} {n : Nat} {l : List NOp} (h : OpsIn w p n l) (hb : Below w.heap.size w w') : OpsIn w' p n l := fun hn => by
  obtain ⟨b, o, e, hc⟩ := h hn
  refine ⟨b, o, e, fun i hi => ?_⟩
  obtain ⟨h0, h1, h2, h3, h4, h5, h6, h7, h8, h9, h10⟩ := hc i hi
  have key : ∀ {k : Nat} {v : Value}, w.cell? ⟨b, k, none⟩ = some v → w'.cell? ⟨b, k, none⟩ = some v := fun hk => (hb.cell (World.block_lt_of_cell? w _ hk)).trans hk
  exact ⟨key h0, key h1, key h2, key h3, key h4, key h5, key h6, key h7, key h8, key h9, key h10⟩
set_option maxRecDepth 100000 in
set_option maxHeartbeats 16000000 in
theorem namesScripts.walk (p : Option Addr) (n d : Nat) (l : List NOp) (w : World) (hl : l.length = n) (hnx : n ≤ maxLen) (hz : ∀ o ∈ l, o.s.size ≤ maxLen ∧ o.t.s.size ≤ maxLen ∧ o.x.size ≤ maxLen) (hi : OpsIn w p n l) (htab : gx.Tab w) :
    Calls Tryz.prog 5 #[.slice p n d] w fun e w' => e = .returned (.bool true) ∧ Below w.heap.size w w' := by
  have HAL := Lib.hid (fun W (hW : Below w.heap.size w W) => alive_any W (gx.tab_on htab hW))
  have HI := Lib.hid hi
  have HZ := Lib.hid hz
  have HL := Lib.hid hl
  clear hi htab hz hl
  unfold maxLen at hnx
  by_cases h60 : 60 < n
  · have d1 : decide (60 < (n : Int)) = true := decide_eq_true (by omega)
    clear h60
    go_enter Tryz.func5, Tryz.ntmps5
    go_wp2_with fail
    refine (HAL.out _ (Below.refl _ _)).mono ?_
    rintro e wz ⟨rfl, hb⟩
    have HZZ := Lib.hid hb
    clear hb
    go_wp2_with fail
    go_ret
    exact ⟨rfl, HZZ.out⟩
  · have d1 : decide (60 < (n : Int)) = false := decide_eq_false (by omega)
    go_enter Tryz.func5, Tryz.ntmps5
    go_wp2_with fail
    clear d1
    go_loopw [3, 4, 6, 7, 8, 9, 10, 17] (fun a b _ _ _ _ _ i wr => ∃ k : Nat, k ≤ n ∧ i = .int .i64 k ∧ ∃ q m c q2 c2 L, a = .slice q m c ∧ b = .slice q2 m c2 ∧ m ≤ 8 ∧ m ≤ c2 ∧ Hid (Nm.Right L) ∧ Hid (POwn wr w.heap.size q m c L) ∧ Hid (PrxIn wr q2 m L) ∧ Hid (Below w.heap.size w wr)) (fun _ _ _ _ _ _ _ i _ => n - (intOf i).toNat)
    case atStart => exact ⟨0, by omega, rfl, none, 0, 0, none, 0, [], rfl, rfl, by omega, by omega, Lib.hid Nm.right_nil, Lib.hid (pown_nil _ _), Lib.hid (fun h => absurd h (Nat.lt_irrefl _)), Lib.hid (Below.refl _ _)⟩
    case round =>
      obtain ⟨k, hk, rfl, q, m, c, q2, c2, L, rfl, rfl, hm8, hmc, HRT, HP, HQ, HB⟩ := hrel
      by_cases hlt : k < n
      · obtain ⟨b, o, rfl, hcell⟩ := ops_on HI.out HB.out (by omega)
        obtain ⟨x0, x1, x2, x3, x4, x5, x6, x7, x8, x9, x10⟩ := hcell k hlt
        rw [← Nat.add_assoc] at x1 x2 x3 x4 x5 x6 x7 x8 x9 x10
        have hzk := HZ.out (l.getD k noOp) (by rw [getD_at _ _ (by rw [HL.out]; exact hlt)]; exact List.getElem_mem _)
        generalize l.getD k noOp = O at *
        obtain ⟨wB, hwB⟩ : ∃ wB, wr.alloc (nopC O) = wB := ⟨_, rfl⟩
        have hal : Below wr.heap.size wr wB := by rw [← hwB]; exact (Below.refl _ _).alloc (Nat.le_refl _) _
        have hnew : wB.heap[wr.heap.size]? = some (nopC O) := by rw [← hwB]; exact heap_alloc_new _ _
        have HOB := Lib.hid (fun W (hW : Below wB.heap.size wB W) => nop_at ((hW.block _ (gc.blk_lt hnew)).trans hnew))
        have HBB := Lib.hid (seqB HB.out hal)
        have HPB := Lib.hid (HP.out.on hal)
        have HQB := Lib.hid (prxs_on HQ.out hal)
        have HK := Lib.hid (kind_any O wB hzk.1 hzk.2.1 hzk.2.2)
        have hLl := HP.out.len
        have HLN := Lib.hid (right_lean HRT.out).1
        have HDO := Lib.hid (fun (hF : O.Fit) W (hW : Below wB.heap.size wB W) => does_any q m c L O W hF hLl (by omega) HLN.out (prxs_on HPB.out.prx hW))
        have HRD := Lib.hid (fun (hF : O.Fit) W (hW : Below wB.heap.size wB W) => rdo_any q2 m c2 L O W hF hLl (by omega) hmc HLN.out (prxs_on HQB.out hW))
        have HRA := Lib.hid (Nm.doP_right L O)
        unfold nopC at hwB
        unfold nopV at HDO HRD HK
        have HWB := Lib.hid hwB
        have HFT := Lib.hid (rfl : O.Fit = O.Fit)
        clear hwB hal hnew hcell hzk hLl HP HQ HLN HPB HQB HFT
        generalize (Nm.doP L O).2 = ER at *
        generalize (Nm.doP L O).1 = L' at *
        obtain ⟨y0, y1, y2, y3, y4, y5, y6, y7, y8, y9, y10⟩ := HOB.out _ (Below.refl _ _)
        go_wp2_with fail
        rw [HWB.out]
        refine HK.out.mono ?_
        rintro e w3 ⟨bk, rfl, hk2, hb⟩
        have HKK := Lib.hid hk2
        have HD3 := Lib.hid hb
        clear hb hk2 HK y0 y1 y2 y3 y4 y5 y6 y7 y8 y9 y10 x0 x1 x2 x3 x4 x5 x6 x7 x8 x9 x10
        cases bk with
        | false =>
          go_wp2_with fail
          refine (HAL.out _ (seqB HBB.out HD3.out)).mono ?_
          rintro e wz ⟨rfl, hb⟩
          have HZZ := Lib.hid (seqB HBB.out (seqB HD3.out hb))
          clear hb
          go_wp2_with fail
          go_ret
          exact ⟨rfl, HZZ.out⟩
        | true =>
          have HF := Lib.hid (HKK.out.1 rfl)
          obtain ⟨y0, y1, y2, y3, y4, y5, y6, y7, y8, y9, y10⟩ := HOB.out _ HD3.out
          go_wp2_with fail
          refine (HDO.out HF.out _ HD3.out).mono ?_
          rintro e w4 ⟨qa, ma, ca, rfl, hp, hb⟩
          have HD4 := Lib.hid (seqB HD3.out hb)
          have HP4 := Lib.hid (hp.low (seqB HBB.out HD3.out).size)
          clear hp hb y0 y1 y2 y3 y4 y5 y6 y7 y8 y9 y10
          obtain ⟨y0, y1, y2, y3, y4, y5, y6, y7, y8, y9, y10⟩ := HOB.out _ HD4.out
          go_wp2_with fail
          refine (HRD.out HF.out _ HD4.out).mono ?_
          rintro e w5 ⟨qb, mb, cb, rfl, hlen, hcb, hp, hb⟩
          have HP5 := Lib.hid (HP4.out.on hb)
          obtain rfl : ma = mb := by rw [← hlen, HP4.out.len]
          have hma : ma ≤ 8 := by rw [← hlen]; exact HRA.out.few
          have HD5 := Lib.hid (seqB HD4.out hb)
          have HFW := Lib.hid (show Few14 L' from fun x hx => ((right_lean HRA.out).1 x hx).2.1)
          have HSM := Lib.hid (rsame_any qa qb ma ma ca cb L' L' w5 hlen hlen (by omega) (by omega) HFW.out HFW.out HP5.out.prx hp)
          rw [decide_eq_true rfl] at HSM
          have HQ5 := Lib.hid hp
          have HLL := Lib.hid hlen
          clear hp hb hlen HP4 HDO HRD
          go_wp2_with fail
          refine HSM.out.mono ?_
          rintro e w6 ⟨rfl, hb⟩
          have HD6 := Lib.hid (seqB HD5.out hb)
          have HP6 := Lib.hid (HP5.out.on hb)
          have HQ6 := Lib.hid (prxs_on HQ5.out hb)
          have HRL := Lib.hid (right_any qa ma ca L' w6 HLL.out (by omega) (right_lean HRA.out).1 HP6.out.prx)
          rw [right_yes HRA.out] at HRL
          clear hb HSM HP5 HQ5
          go_wp2_with fail
          refine HRL.out.mono ?_
          rintro e w7 ⟨rfl, hb⟩
          have HP7 := Lib.hid (HP6.out.on hb)
          have HQ7 := Lib.hid (prxs_on HQ6.out hb)
          have HB7 := Lib.hid (seqB HBB.out (seqB HD6.out hb))
          clear hb HRL HP6 HQ6
          go_wp2_with fail
          go_roundw
          case rel => exact ⟨k + 1, by omega, by go_num, qa, ma, ca, qb, cb, L', rfl, rfl, hma, hcb, HRA, HP7, HQ7, HB7⟩
          case measure => simp [intOf]; omega
      · obtain rfl : k = n := by omega
        go_wp2_with fail
        refine (HAL.out _ HB.out).mono ?_
        rintro e wz ⟨rfl, hb⟩
        have HZZ := Lib.hid (seqB HB.out hb)
        clear hb
        go_wp2_with fail
        go_ret
        exact ⟨rfl, HZZ.out⟩
section
open Go.ChangeShapes Go.WideShapes Go.ChangeAt Go.RowKit

instance : Inhabited Tox := ⟨noTox⟩
instance : Inhabited Prx := ⟨noPrx⟩
theorem cellsTS : Tryz.prog.cellsOf 35 = 1 := by kernel_rfl
theorem cellsPrx : Tryz.prog.cellsOf 37 = 4 := by kernel_rfl
set_option maxRecDepth 100000 in
/-- A toxic's cells, as they came in. -/
theorem tox_in {H : Type} {enc : TypeId × Value → H} {W : World} {fuel : Nat} {c0 c1 c2 c3 c4 c5 : Value} {y : DataW H × List MemPlace}
    (hf : DataW.trod enc Tryz.prog W 0 (fun _ => true) true fuel 24 [c0, c1, c2, c3, c4, c5] = some y) :
    ∃ t : Tox, c0 = .string t.s ∧ c1 = .int .i64 t.k ∧ c2 = .bool t.up ∧ c3 = .int .i64 t.o ∧ c4 = .int .i64 t.a ∧ c5 = .int .i64 t.b ∧ t.s.size ≤ maxLen := by
  obtain ⟨xs, m, hy, hx, _, hl, hi⟩ := DataW.trod_struct Tryz.underlying24 hf
  obtain ⟨y0, y1, y2, y3, y4, y5, rfl⟩ : ∃ y0 y1 y2 y3 y4 y5, xs = [y0, y1, y2, y3, y4, y5] := by
    match xs, hl with
    | [y0, y1, y2, y3, y4, y5], _ => exact ⟨y0, y1, y2, y3, y4, y5, rfl⟩
  have e0 := hi 0 _ rfl
  have e1 := hi 1 _ rfl
  have e2 := hi 2 _ rfl
  have e3 := hi 3 _ rfl
  have e4 := hi 4 _ rfl
  have e5 := hi 5 _ rfl
  simp [cellsInt, cellsStr, cellsBool] at e0 e1 e2 e3 e4 e5
  obtain ⟨x0, q0, rfl, w0⟩ := DataW.trod_string Tryz.underlying9 e0
  obtain ⟨x1, q1, rfl, w1⟩ := DataW.trod_int Tryz.underlying3 e1
  obtain ⟨x2, q2, rfl⟩ := DataW.trod_bool Tryz.underlying4 e2
  obtain ⟨x3, q3, rfl, w3⟩ := DataW.trod_int Tryz.underlying3 e3
  obtain ⟨x4, q4, rfl, w4⟩ := DataW.trod_int Tryz.underlying3 e4
  obtain ⟨x5, q5, rfl, w5⟩ := DataW.trod_int Tryz.underlying3 e5
  cases q0
  cases q1
  cases q2
  cases q3
  cases q4
  cases q5
  exact ⟨⟨x0, x1, x2, x3, x4, x5⟩, rfl, rfl, rfl, rfl, rfl, rfl, w0⟩
set_option maxRecDepth 100000 in
/-- Toxics that came in. -/
theorem tox_slice {H : Type} {enc : TypeId × Value → H} {W : World} {fuel : Nat} {cs : List Value} {x : DataW H × List MemPlace}
    (hf : DataW.trod enc Tryz.prog W 0 (fun _ => true) true fuel 35 cs = some x) :
    ∃ (pl : Option Addr) (nl dl : Nat) (l : List Tox), cs = [.slice pl nl dl] ∧ l.length = nl ∧ nl ≤ dl ∧ dl ≤ maxLen ∧ (∀ t ∈ l, t.s.size ≤ maxLen) ∧ ToxIn W pl nl l := by
  rcases Go.Deep.open_slice Tryz.underlying35 hf with ⟨rfl, _⟩ | ⟨a, len, cap, m, n, D, Pl, rfl, _, hl, hm, hmm, hx, hcell⟩
  · exact ⟨none, 0, 0, [], rfl, rfl, Nat.le_refl _, Nat.zero_le _, (fun _ h => by cases h), fun h => absurd h (Nat.lt_irrefl _)⟩
  · simp only [if_true] at hmm
    rw [cellsTox] at hcell
    have each : ∀ i, i < len → ∃ t : Tox, W.cell? (a.add (i * 6)) = some (.string t.s) ∧ W.cell? ((a.add (i * 6)).add 1) = some (.int .i64 t.k) ∧ W.cell? ((a.add (i * 6)).add 2) = some (.bool t.up) ∧ W.cell? ((a.add (i * 6)).add 3) = some (.int .i64 t.o) ∧ W.cell? ((a.add (i * 6)).add 4) = some (.int .i64 t.a) ∧ W.cell? ((a.add (i * 6)).add 5) = some (.int .i64 t.b) ∧ t.s.size ≤ maxLen := by
      intro i hi
      obtain ⟨cs', h1, h2⟩ := hcell i (by omega)
      obtain ⟨_, hlen, hc⟩ := World.cells?_some h1
      match cs', hlen with
      | [v0, v1, v2, v3, v4, v5], _ =>
        obtain ⟨t, t0, t1, t2, t3, t4, t5, tw⟩ := tox_in h2
        have c0 := hc 0 (by omega)
        have c1 := hc 1 (by omega)
        have c2 := hc 2 (by omega)
        have c3 := hc 3 (by omega)
        have c4 := hc 4 (by omega)
        have c5 := hc 5 (by omega)
        simp only [List.getElem?_cons_zero, List.getElem?_cons_succ, t0, t1, t2, t3, t4, t5] at c0 c1 c2 c3 c4 c5
        exact ⟨t, by rw [← c0]; simp [Addr.add], c1, c2, c3, c4, c5, tw⟩
    obtain ⟨f, hfe⟩ := Go.Deep.choose_lt each
    refine ⟨some a, len, cap, (List.range len).map f, rfl, by simp, by omega, by omega, fun x hx' => ?_, fun hn => ?_⟩
    · obtain ⟨i, hi, rfl⟩ := List.mem_map.mp hx'
      exact (hfe i (List.mem_range.mp hi)).2.2.2.2.2.2
    · obtain ⟨b, o, s⟩ := a
      have hs : s = none := by simpa [Addr.add] using World.cell?_spot (hfe 0 hn).1
      subst hs
      refine ⟨b, o, rfl, fun i hi => ?_⟩
      have hi' : i < len := hi
      obtain ⟨h0, h1, h2, h3, h4, h5, _⟩ := hfe i hi'
      rw [show ((List.range len).map f).getD i noTox = f i from by rw [getD_at _ _ (by simpa using hi'), List.getElem_map, List.getElem_range]]
      simp only [WideShapes.add_plain, Nat.add_assoc] at h0 h1 h2 h3 h4 h5
      exact ⟨h0, h1, h2, h3, h4, h5⟩
/-- How long what came in may be. -/
def Long14 (x : Prx) : Prop := x.s.size ≤ maxLen ∧ x.ts.length ≤ maxLen ∧ ∀ t ∈ x.ts, t.s.size ≤ maxLen
set_option maxRecDepth 100000 in
/-- A proxy's cells, as they came in. -/
theorem prx_in {H : Type} {enc : TypeId × Value → H} {W : World} {fuel : Nat} {c0 c1 c2 c3 : Value} {y : DataW H × List MemPlace}
    (hf : DataW.trod enc Tryz.prog W 0 (fun _ => true) true fuel 37 [c0, c1, c2, c3] = some y) :
    ∃ (x : Prx) (q : Option Addr) (m d : Nat), c0 = .string x.s ∧ c1 = .bool x.on ∧ c2 = .int .i64 x.most ∧ c3 = .slice q m d ∧ x.ts.length = m ∧ m ≤ d ∧ d ≤ maxLen ∧ ToxIn W q m x.ts ∧ Long14 x := by
  obtain ⟨xs, m, hy, hx, _, hl, hi⟩ := DataW.trod_struct Tryz.underlying37 hf
  obtain ⟨y0, y1, y2, y3, rfl⟩ : ∃ y0 y1 y2 y3, xs = [y0, y1, y2, y3] := by
    match xs, hl with
    | [y0, y1, y2, y3], _ => exact ⟨y0, y1, y2, y3, rfl⟩
  have e0 := hi 0 _ rfl
  have e1 := hi 1 _ rfl
  have e2 := hi 2 _ rfl
  have e3 := hi 3 _ rfl
  simp [cellsInt, cellsStr, cellsBool, cellsTS] at e0 e1 e2 e3
  obtain ⟨x0, q0, rfl, w0⟩ := DataW.trod_string Tryz.underlying9 e0
  obtain ⟨x1, q1, rfl⟩ := DataW.trod_bool Tryz.underlying4 e1
  obtain ⟨x2, q2, rfl, w2⟩ := DataW.trod_int Tryz.underlying3 e2
  obtain ⟨pl, nl, dl, l, hcs, h1, h2, h3, h4, h5⟩ := tox_slice e3
  cases q0
  cases q1
  cases q2
  simp only [List.cons.injEq, and_true] at hcs
  exact ⟨⟨x0, x1, x2, l⟩, pl, nl, dl, rfl, rfl, rfl, hcs, h1, h2, h3, h5, w0, (show l.length ≤ maxLen by omega), h4⟩
set_option maxRecDepth 100000 in
/-- Proxies that came in. -/
theorem openPs {H : Type} {enc : TypeId × Value → H} {W : World} {a : Option Addr} {len cap : Nat} {d : DataW H} {p : List MemPlace}
    (h : DataW.Trod enc Tryz.prog W 0 (fun _ => true) true 22 (.slice a len cap) d p) :
    ∃ l : List Prx, l.length = len ∧ len ≤ cap ∧ cap ≤ maxLen ∧ (∀ x ∈ l, Long14 x) ∧ PrxIn W a len l := by
  obtain ⟨fuel, hf⟩ := h
  rcases Go.Deep.open_slice Tryz.underlying22 hf with ⟨hcs, hx⟩ | ⟨a', len', cap', m, n, D, Pl, hcs, _, hl, hm, hmm, hx, hcell⟩
  · simp [Value.cells] at hcs
    obtain ⟨rfl, rfl, rfl⟩ := hcs
    exact ⟨[], rfl, Nat.le_refl _, Nat.zero_le _, (fun _ h => by cases h), (fun h => absurd h (by omega))⟩
  · simp [Value.cells] at hcs
    obtain ⟨rfl, rfl, rfl⟩ := hcs
    simp only [if_true] at hmm
    rw [cellsPrx] at hcell
    have each : ∀ i, i < len → ∃ x : Prx, ∃ (q : Option Addr) (m d : Nat), W.cell? (a'.add (i * 4)) = some (.string x.s) ∧ W.cell? ((a'.add (i * 4)).add 1) = some (.bool x.on) ∧ W.cell? ((a'.add (i * 4)).add 2) = some (.int .i64 x.most) ∧ W.cell? ((a'.add (i * 4)).add 3) = some (.slice q m d) ∧ m ≤ d ∧ x.ts.length = m ∧ ToxIn W q m x.ts ∧ Long14 x := by
      intro i hi
      obtain ⟨cs', h1, h2⟩ := hcell i (by omega)
      obtain ⟨_, hlen, hc⟩ := World.cells?_some h1
      match cs', hlen with
      | [v0, v1, v2, v3], _ =>
        obtain ⟨x, q, m, d, t0, t1, t2, t3, t4, t5, _, t6, t7⟩ := prx_in h2
        have c0 := hc 0 (by omega)
        have c1 := hc 1 (by omega)
        have c2 := hc 2 (by omega)
        have c3 := hc 3 (by omega)
        simp only [List.getElem?_cons_zero, List.getElem?_cons_succ, t0, t1, t2, t3] at c0 c1 c2 c3
        exact ⟨x, q, m, d, by rw [← c0]; simp [Addr.add], c1, c2, c3, t5, t4, t6, t7⟩
    obtain ⟨f, hfe⟩ := Go.Deep.choose_lt each
    refine ⟨(List.range len).map f, by simp, by omega, by omega, fun x hx' => ?_, fun hn => ?_⟩
    · obtain ⟨i, hi, rfl⟩ := List.mem_map.mp hx'
      obtain ⟨_, _, _, _, _, _, _, _, _, _, h⟩ := hfe i (List.mem_range.mp hi)
      exact h
    · obtain ⟨b, o, s⟩ := a'
      have hs : s = none := by
        obtain ⟨_, _, _, h, _⟩ := hfe 0 hn
        simpa [Addr.add] using World.cell?_spot h
      subst hs
      refine ⟨b, o, rfl, fun i hi => ?_⟩
      have hi' : i < len := hi
      obtain ⟨q, m, d, h0, h1, h2, h3, h4, h5, h6, _⟩ := hfe i hi'
      rw [show ((List.range len).map f).getD i noPrx = f i from by rw [getD_at _ _ (by simpa using hi'), List.getElem_map, List.getElem_range]]
      simp only [WideShapes.add_plain, Nat.add_assoc] at h0 h1 h2 h3
      exact ⟨h0, h1, h2, q, m, d, h3, h4, h5, h6⟩
end
section
open Go.ChangeShapes Go.WideShapes Go.ChangeAt
theorem cellsOp14 : Tryz.prog.cellsOf 26 = 11 := by kernel_rfl
set_option maxRecDepth 100000 in
/-- A toxic's cells, as they came in: no places. -/
theorem tox_in0 {H : Type} {enc : TypeId × Value → H} {W : World} {fuel : Nat} {c0 c1 c2 c3 c4 c5 : Value} {y : DataW H × List MemPlace}
    (hf : DataW.trod enc Tryz.prog W 0 (fun _ => true) true fuel 24 [c0, c1, c2, c3, c4, c5] = some y) :
    ∃ t : Tox, c0 = .string t.s ∧ c1 = .int .i64 t.k ∧ c2 = .bool t.up ∧ c3 = .int .i64 t.o ∧ c4 = .int .i64 t.a ∧ c5 = .int .i64 t.b ∧ t.s.size ≤ maxLen ∧ y.2 = [] := by
  obtain ⟨xs, m, hy, hx, _, hl, hi⟩ := DataW.trod_struct Tryz.underlying24 hf
  obtain ⟨y0, y1, y2, y3, y4, y5, rfl⟩ : ∃ y0 y1 y2 y3 y4 y5, xs = [y0, y1, y2, y3, y4, y5] := by
    match xs, hl with
    | [y0, y1, y2, y3, y4, y5], _ => exact ⟨y0, y1, y2, y3, y4, y5, rfl⟩
  have e0 := hi 0 _ rfl
  have e1 := hi 1 _ rfl
  have e2 := hi 2 _ rfl
  have e3 := hi 3 _ rfl
  have e4 := hi 4 _ rfl
  have e5 := hi 5 _ rfl
  simp [cellsInt, cellsStr, cellsBool] at e0 e1 e2 e3 e4 e5
  obtain ⟨x0, q0, rfl, w0⟩ := DataW.trod_string Tryz.underlying9 e0
  obtain ⟨x1, q1, rfl, w1⟩ := DataW.trod_int Tryz.underlying3 e1
  obtain ⟨x2, q2, rfl⟩ := DataW.trod_bool Tryz.underlying4 e2
  obtain ⟨x3, q3, rfl, w3⟩ := DataW.trod_int Tryz.underlying3 e3
  obtain ⟨x4, q4, rfl, w4⟩ := DataW.trod_int Tryz.underlying3 e4
  obtain ⟨x5, q5, rfl, w5⟩ := DataW.trod_int Tryz.underlying3 e5
  cases q0
  cases q1
  cases q2
  cases q3
  cases q4
  cases q5
  exact ⟨⟨x0, x1, x2, x3, x4, x5⟩, rfl, rfl, rfl, rfl, rfl, rfl, w0, by rw [hx]; simp⟩
set_option maxRecDepth 100000 in
/-- A call that came in. -/
theorem openOp {H : Type} {enc : TypeId × Value → H} {W : World} {base : Nat} {v : Value} {d : DataW H} {p : List MemPlace}
    (ho : Value.okWide Tryz.prog W .any base 26 v) (h : DataW.Trod enc Tryz.prog W 0 (fun _ => true) true 26 v d p) :
    ∃ o : NOp, v = nopV o ∧ (o.s.size ≤ maxLen ∧ o.t.s.size ≤ maxLen ∧ o.x.size ≤ maxLen) ∧ p = [] := by
  simp only [Value.okWide, Tryz.underlying26] at ho
  obtain ⟨cs, rfl, hs, _⟩ := ho
  rw [cellsOp14] at hs
  obtain ⟨l⟩ := cs
  obtain ⟨c0, c1, c2, c3, c4, c5, c6, c7, c8, c9, c10, rfl⟩ : ∃ c0 c1 c2 c3 c4 c5 c6 c7 c8 c9 c10, l = [c0, c1, c2, c3, c4, c5, c6, c7, c8, c9, c10] := by
    match l, hs with
    | [c0, c1, c2, c3, c4, c5, c6, c7, c8, c9, c10], _ => exact ⟨c0, c1, c2, c3, c4, c5, c6, c7, c8, c9, c10, rfl⟩
  obtain ⟨fuel, hf⟩ := h
  obtain ⟨xs, m, rfl, hx, _, hl, hi⟩ := DataW.trod_struct Tryz.underlying26 hf
  obtain ⟨y0, y1, y2, y3, y4, y5, rfl⟩ : ∃ y0 y1 y2 y3 y4 y5, xs = [y0, y1, y2, y3, y4, y5] := by
    match xs, hl with
    | [y0, y1, y2, y3, y4, y5], _ => exact ⟨y0, y1, y2, y3, y4, y5, rfl⟩
  have e0 := hi 0 _ rfl
  have e1 := hi 1 _ rfl
  have e2 := hi 2 _ rfl
  have e3 := hi 3 _ rfl
  have e4 := hi 4 _ rfl
  have e5 := hi 5 _ rfl
  simp [cellsInt, cellsStr, cellsBool, cellsTox, Value.cells] at e0 e1 e2 e3 e4 e5
  obtain ⟨x0, q0, rfl, w0⟩ := DataW.trod_int Tryz.underlying3 e0
  obtain ⟨x1, q1, rfl, w1⟩ := DataW.trod_int Tryz.underlying3 e1
  obtain ⟨x2, q2, rfl, w2⟩ := DataW.trod_string Tryz.underlying9 e2
  obtain ⟨x3, q3, rfl, w3⟩ := DataW.trod_string Tryz.underlying9 e3
  obtain ⟨x4, q4, rfl⟩ := DataW.trod_bool Tryz.underlying4 e4
  obtain ⟨t, t0, t1, t2, t3, t4, t5, tw, tn⟩ := tox_in0 e5
  subst t0 t1 t2 t3 t4 t5
  cases q0
  cases q1
  cases q2
  cases q3
  cases q4
  refine ⟨⟨x0, x1, x2, x3, x4, t⟩, rfl, ⟨w2, tw, w3⟩, ?_⟩
  simpa [tn] using (congrArg Prod.snd hx)
end
section
open Go.ChangeShapes Go.WideShapes Go.ChangeAt
instance : Inhabited NOp := ⟨noOp⟩
set_option maxRecDepth 100000 in
/-- A call's cells, as they came in. -/
theorem op_in {H : Type} {enc : TypeId × Value → H} {W : World} {fuel : Nat} {c0 c1 c2 c3 c4 c5 c6 c7 c8 c9 c10 : Value} {y : DataW H × List MemPlace}
    (hf : DataW.trod enc Tryz.prog W 0 (fun _ => true) true fuel 26 [c0, c1, c2, c3, c4, c5, c6, c7, c8, c9, c10] = some y) :
    ∃ o : NOp, [c0, c1, c2, c3, c4, c5, c6, c7, c8, c9, c10] = [.int .i64 o.kind, .int .i64 o.n, .string o.s, .string o.x, .bool o.on, .string o.t.s, .int .i64 o.t.k, .bool o.t.up, .int .i64 o.t.o, .int .i64 o.t.a, .int .i64 o.t.b] ∧ (o.s.size ≤ maxLen ∧ o.t.s.size ≤ maxLen ∧ o.x.size ≤ maxLen) := by
  obtain ⟨xs, m, rfl, hx, _, hl, hi⟩ := DataW.trod_struct Tryz.underlying26 hf
  obtain ⟨y0, y1, y2, y3, y4, y5, rfl⟩ : ∃ y0 y1 y2 y3 y4 y5, xs = [y0, y1, y2, y3, y4, y5] := by
    match xs, hl with
    | [y0, y1, y2, y3, y4, y5], _ => exact ⟨y0, y1, y2, y3, y4, y5, rfl⟩
  have e0 := hi 0 _ rfl
  have e1 := hi 1 _ rfl
  have e2 := hi 2 _ rfl
  have e3 := hi 3 _ rfl
  have e4 := hi 4 _ rfl
  have e5 := hi 5 _ rfl
  simp [cellsInt, cellsStr, cellsBool, cellsTox] at e0 e1 e2 e3 e4 e5
  obtain ⟨x0, q0, rfl, w0⟩ := DataW.trod_int Tryz.underlying3 e0
  obtain ⟨x1, q1, rfl, w1⟩ := DataW.trod_int Tryz.underlying3 e1
  obtain ⟨x2, q2, rfl, w2⟩ := DataW.trod_string Tryz.underlying9 e2
  obtain ⟨x3, q3, rfl, w3⟩ := DataW.trod_string Tryz.underlying9 e3
  obtain ⟨x4, q4, rfl⟩ := DataW.trod_bool Tryz.underlying4 e4
  obtain ⟨t, t0, t1, t2, t3, t4, t5, tw, tn⟩ := tox_in0 e5
  subst t0 t1 t2 t3 t4 t5
  cases q0
  cases q1
  cases q2
  cases q3
  cases q4
  exact ⟨⟨x0, x1, x2, x3, x4, t⟩, rfl, w2, tw, w3⟩
set_option maxRecDepth 100000 in
/-- Calls that came in. -/
theorem openOps {H : Type} {enc : TypeId × Value → H} {W : World} {a : Option Addr} {len cap : Nat} {d : DataW H} {p : List MemPlace}
    (h : DataW.Trod enc Tryz.prog W 0 (fun _ => true) true 42 (.slice a len cap) d p) :
    ∃ l : List NOp, l.length = len ∧ len ≤ cap ∧ cap ≤ maxLen ∧ (∀ o ∈ l, o.s.size ≤ maxLen ∧ o.t.s.size ≤ maxLen ∧ o.x.size ≤ maxLen) ∧ OpsIn W a len l := by
  obtain ⟨fuel, hf⟩ := h
  rcases Go.Deep.open_slice Tryz.underlying42 hf with ⟨hcs, hx⟩ | ⟨a', len', cap', m, n, D, Pl, hcs, _, hl, hm, hmm, hx, hcell⟩
  · simp [Value.cells] at hcs
    obtain ⟨rfl, rfl, rfl⟩ := hcs
    exact ⟨[], rfl, Nat.le_refl _, Nat.zero_le _, (fun _ h => by cases h), (fun h => absurd h (by omega))⟩
  · simp [Value.cells] at hcs
    obtain ⟨rfl, rfl, rfl⟩ := hcs
    simp only [if_true] at hmm
    rw [cellsOp14] at hcell
    have each : ∀ i, i < len → ∃ x : NOp, W.cell? (a'.add (i * 11)) = some (.int .i64 x.kind) ∧ W.cell? ((a'.add (i * 11)).add 1) = some (.int .i64 x.n) ∧ W.cell? ((a'.add (i * 11)).add 2) = some (.string x.s) ∧ W.cell? ((a'.add (i * 11)).add 3) = some (.string x.x) ∧ W.cell? ((a'.add (i * 11)).add 4) = some (.bool x.on) ∧ W.cell? ((a'.add (i * 11)).add 5) = some (.string x.t.s) ∧ W.cell? ((a'.add (i * 11)).add 6) = some (.int .i64 x.t.k) ∧
        W.cell? ((a'.add (i * 11)).add 7) = some (.bool x.t.up) ∧ W.cell? ((a'.add (i * 11)).add 8) = some (.int .i64 x.t.o) ∧ W.cell? ((a'.add (i * 11)).add 9) = some (.int .i64 x.t.a) ∧ W.cell? ((a'.add (i * 11)).add 10) = some (.int .i64 x.t.b) ∧ (x.s.size ≤ maxLen ∧ x.t.s.size ≤ maxLen ∧ x.x.size ≤ maxLen) := by
      intro i hi
      obtain ⟨cs', h1, h2⟩ := hcell i (by omega)
      obtain ⟨_, hlen, hc⟩ := World.cells?_some h1
      match cs', hlen with
      | [v0, v1, v2, v3, v4, v5, v6, v7, v8, v9, v10], _ =>
        obtain ⟨x, t0, tz⟩ := op_in h2
        rw [t0] at hc
        have c0 := hc 0 (by omega)
        have c1 := hc 1 (by omega)
        have c2 := hc 2 (by omega)
        have c3 := hc 3 (by omega)
        have c4 := hc 4 (by omega)
        have c5 := hc 5 (by omega)
        have c6 := hc 6 (by omega)
        have c7 := hc 7 (by omega)
        have c8 := hc 8 (by omega)
        have c9 := hc 9 (by omega)
        have c10 := hc 10 (by omega)
        simp only [List.getElem?_cons_zero, List.getElem?_cons_succ] at c0 c1 c2 c3 c4 c5 c6 c7 c8 c9 c10
        exact ⟨x, by rw [← c0]; simp [Addr.add], c1, c2, c3, c4, c5, c6, c7, c8, c9, c10, tz⟩
    obtain ⟨f, hfe⟩ := Go.Deep.choose_lt each
    refine ⟨(List.range len).map f, by simp, by omega, by omega, fun x hx' => ?_, fun hn => ?_⟩
    · obtain ⟨i, hi, rfl⟩ := List.mem_map.mp hx'
      obtain ⟨_, _, _, _, _, _, _, _, _, _, _, h⟩ := hfe i (List.mem_range.mp hi)
      exact h
    · obtain ⟨b, o, s⟩ := a'
      have hs : s = none := by
        obtain ⟨h, _⟩ := hfe 0 hn
        simpa [Addr.add] using World.cell?_spot h
      subst hs
      refine ⟨b, o, rfl, fun i hi => ?_⟩
      have hi' : i < len := hi
      obtain ⟨h0, h1, h2, h3, h4, h5, h6, h7, h8, h9, h10, _⟩ := hfe i hi'
      rw [show ((List.range len).map f).getD i noOp = f i from by rw [getD_at _ _ (by simpa using hi'), List.getElem_map, List.getElem_range]]
      simp only [WideShapes.add_plain, Nat.add_assoc] at h0 h1 h2 h3 h4 h5 h6 h7 h8 h9 h10
      exact ⟨h0, h1, h2, h3, h4, h5, h6, h7, h8, h9, h10⟩
end
end Go.Proofs.YtmghkcjljnlocaaGreatDoor

/-
  Contracts: change with each closure, and the calls that change a proxy. Conditions: the names' lengths.
-/
import Derived.Test.YtmghkcjljnlocaaGreatDoorPO
namespace Go.Proofs.YtmghkcjljnlocaaGreatDoor
open Go.RowKit
theorem clo_out {w w1 w2 : World} {b o n c K : Nat} {zs : List RP} {x' : Prx} {er : Int} {e : Ending} (h : CloOut w.heap.size b o n c K zs x' er w1 e w2) (hb : Below w.heap.size w w1) : e = .returned (.int .i64 er) ∧ POwn w2 w.heap.size (some ⟨b, o, none⟩) n c ((zs.map (·.x)).set K x') ∧ Below w.heap.size w w2 := by
  obtain ⟨rfl, z', rfl, h1, h2, h3⟩ := h
  exact ⟨rfl, ⟨zs.set K z', List.map_set .., h1, h2⟩, hb.trans h3⟩
theorem map_at (zs : List RP) {K : Nat} (h : K < zs.length) : (zs.map (·.x)).getD K noPrx = (zs.getD K noRP).x := by
  rw [getD_at _ noPrx (by rw [List.length_map]; exact h), getD_at zs noRP h, List.getElem_map]
theorem right_few {l : List Prx} (h : Nm.Right l) {K : Nat} (hK : K < l.length) : (l.getD K noPrx).ts.length ≤ 8 := by
  have := h.each _ (show l.getD K noPrx ∈ l from by rw [getD_at _ _ hK]; exact List.getElem_mem _)
  exact ((Nm.chkP_iff _).1 this).2.2.2.1
set_option maxRecDepth 100000 in
set_option maxHeartbeats 8000000 in
theorem chgAddToxic_any (p : Option Addr) (n d : Nat) (l : List Prx) (O : NOp) (w : World) (B : Nat) (hkd : O.kind = 3) (hs : O.t.s.size ≤ maxLen) (hl : l.length = n) (hn : n ≤ 1000000) (hz : Lean14 l) (hi : PrxIn w p n l) (hB : TBox w B O.t) :
    Calls Tryz.prog 46 #[.slice p n d, .string O.s, .func (.func 47) #[] #[ptr B]] w (OutDo (Nm.doP l O).1 (Nm.doP l O).2 w) := by
  by_cases hr : Nm.Right l
  · have h8 : n ≤ 8 := by rw [← hl]; exact hr.few
    have hR := reach_yes p n d l O.s w hl hz hi hr
    rw [doP_yes hr]
    by_cases hf : Nm.fP l O.s < n
    · rw [Nm.do_tox (Or.inl hkd) (by rw [hl]; exact hf)]
      dsimp only
      rw [if_pos hf, if_pos hf] at hR
      have HR := Lib.hid hR
      have HR8 := Lib.hid (right_few hr (K := Nm.fP l O.s) (by rw [hl]; exact hf))
      have HBX := Lib.hid hB
      generalize Nm.fP l O.s = K at *
      have hK1 : (K : Int) < (n : Int) := by omega
      obtain ⟨x, hx⟩ : ∃ x, l.getD K noPrx = x := ⟨_, rfl⟩
      rw [hx] at HR8 ⊢
      have HXX := Lib.hid hx
      clear hR hi hz hr hl hB hx
      go_enter Tryz.func46, Tryz.ntmps46
      go_wp2_with fail
      refine HR.out.mono ?_
      rintro e w1 ⟨q, c, rfl, ⟨zs, rfl, h1, h2⟩, hb⟩
      obtain ⟨b1, o1, cur1, rfl, hb1, hh1, _⟩ := h1.blk (by omega)
      have hlz := h1.len
      have hma := map_at zs (K := K) (by omega)
      have hex := hma.symm.trans HXX.out
      have hR8 : (zs.getD K noRP).x.ts.length ≤ 8 := by rw [hex]; exact HR8.out
      have hC := cloAdd_any h1 h2 hf _ rfl hb.size O hkd hs hR8 (HBX.out.on hb)
      rw [hex] at hC
      have HC := Lib.hid hC
      have HB := Lib.hid hb
      clear h1 h2 hb hb1 hh1 HR hlz hma hex hR8 hC HXX
      go_wp2_with fail
      refine HC.out.mono ?_
      intro e w2 hq
      obtain ⟨rfl, hp, hb⟩ := clo_out hq HB.out
      have HP := Lib.hid hp
      have HB2 := Lib.hid hb
      clear hp hb hq HC
      go_wp2_with fail
      go_ret2
      exact out_same HP.out HB2.out
    · have hno : Nm.doR l O = (l, 142) := by
        unfold Nm.doR
        rw [if_neg (by omega), if_neg (by omega)]
        dsimp only
        rw [if_pos (by rw [hl]; exact hf)]
      rw [hno]
      rw [if_neg hf, if_neg hf] at hR
      have HR := Lib.hid hR
      clear hR hi hz hr hl hno hB
      go_enter Tryz.func46, Tryz.ntmps46
      go_wp2_with fail
      refine HR.out.mono ?_
      rintro e w1 ⟨q, c, rfl, hp, hb⟩
      have HP := Lib.hid hp
      have HB := Lib.hid hb
      clear hp hb HR
      go_wp2_with fail
      go_ret2
      exact out_same HP.out HB.out
  · have hR := reach_no p n d l O.s w hl hn hz hi hr
    have HR := Lib.hid hR
    rw [doP_no hr, if_neg (by omega)]
    clear hR hi hz hr hl hB
    go_enter Tryz.func46, Tryz.ntmps46
    go_wp2_with fail
    refine HR.out.mono ?_
    rintro e w1 ⟨rfl, hb⟩
    have HB := Lib.hid hb
    clear hb HR
    go_wp2_with fail
    go_ret2
    exact out_same (pown_nil _ _) HB.out
set_option maxRecDepth 100000 in
set_option maxHeartbeats 8000000 in
theorem addToxic_any (p : Option Addr) (n d : Nat) (l : List Prx) (O : NOp) (w : World) (hkd : O.kind = 3) (hs : O.t.s.size ≤ maxLen) (hl : l.length = n) (hn : n ≤ 1000000) (hz : Lean14 l) (hi : PrxIn w p n l) :
    Calls Tryz.prog 22 #[.slice p n d, .string O.s, .agg #[.string O.t.s, .int .i64 O.t.k, .bool O.t.up, .int .i64 O.t.o, .int .i64 O.t.a, .int .i64 O.t.b]] w (OutDo (Nm.doP l O).1 (Nm.doP l O).2 w) := by
  obtain ⟨w1, hw1⟩ : ∃ w1, w.alloc (.cells #[.string O.t.s, .int .i64 O.t.k, .bool O.t.up, .int .i64 O.t.o, .int .i64 O.t.a, .int .i64 O.t.b] TT) = w1 := ⟨_, rfl⟩
  have hb1 : Below w.heap.size w w1 := by rw [← hw1]; exact (Below.refl _ _).alloc (Nat.le_refl _) _
  have h1 : w1.heap[w.heap.size]? = some (.cells #[.string O.t.s, .int .i64 O.t.k, .bool O.t.up, .int .i64 O.t.o, .int .i64 O.t.a, .int .i64 O.t.b] TT (0, 0)) := by rw [← hw1]; exact heap_alloc_new _ _
  have HX := Lib.hid (chgAddToxic_any p n d l O w1 w.heap.size hkd hs hl hn hz (prxs_on hi hb1) (h1))
  have HW := Lib.hid hw1
  have HB := Lib.hid hb1
  clear hi hl hz hw1 hb1 h1
  go_enter Tryz.func22, Tryz.ntmps22
  go_wp2_with fail
  rw [HW.out]
  refine HX.out.mono ?_
  rintro e w2 ⟨q, m, c, rfl, hp, hb⟩
  have HP := Lib.hid (hp.low HB.out.size)
  have HB2 := Lib.hid (seqB HB.out hb)
  clear hp hb HX
  go_wp2_with fail
  go_ret2
  exact out_same HP.out HB2.out
set_option maxRecDepth 100000 in
set_option maxHeartbeats 8000000 in
theorem chgSwitch_any (p : Option Addr) (n d : Nat) (l : List Prx) (O : NOp) (w : World) (B : Nat) (hkd : O.kind = 2) (hl : l.length = n) (hn : n ≤ 1000000) (hz : Lean14 l) (hi : PrxIn w p n l) (hB : w.cell? ⟨B, 0, none⟩ = some (.bool O.on)) :
    Calls Tryz.prog 46 #[.slice p n d, .string O.s, .func (.func 59) #[] #[ptr B]] w (OutDo (Nm.doP l O).1 (Nm.doP l O).2 w) := by
  by_cases hr : Nm.Right l
  · have h8 : n ≤ 8 := by rw [← hl]; exact hr.few
    have hR := reach_yes p n d l O.s w hl hz hi hr
    rw [doP_yes hr]
    by_cases hf : Nm.fP l O.s < n
    · rw [Nm.do_switch hkd (by rw [hl]; exact hf)]
      dsimp only
      rw [if_pos hf, if_pos hf] at hR
      have HR := Lib.hid hR
      have HR8 := Lib.hid (right_few hr (K := Nm.fP l O.s) (by rw [hl]; exact hf))
      have HBX := Lib.hid hB
      generalize Nm.fP l O.s = K at *
      have hK1 : (K : Int) < (n : Int) := by omega
      obtain ⟨x, hx⟩ : ∃ x, l.getD K noPrx = x := ⟨_, rfl⟩
      rw [hx] at HR8 ⊢
      have HXX := Lib.hid hx
      clear hR hi hz hr hl hB hx
      go_enter Tryz.func46, Tryz.ntmps46
      go_wp2_with fail
      refine HR.out.mono ?_
      rintro e w1 ⟨q, c, rfl, ⟨zs, rfl, h1, h2⟩, hb⟩
      obtain ⟨b1, o1, cur1, rfl, hb1, hh1, _⟩ := h1.blk (by omega)
      have hlz := h1.len
      have hma := map_at zs (K := K) (by omega)
      have hex := hma.symm.trans HXX.out
      have hR8 : (zs.getD K noRP).x.ts.length ≤ 8 := by rw [hex]; exact HR8.out
      have hC := cloSw_any h1 h2 hf _ rfl O.on ((hb.cell (World.block_lt_of_cell? w _ HBX.out)).trans HBX.out)
      rw [hex] at hC
      have HC := Lib.hid hC
      have HB := Lib.hid hb
      clear h1 h2 hb hb1 hh1 HR hlz hma hex hR8 hC HXX
      go_wp2_with fail
      refine HC.out.mono ?_
      intro e w2 hq
      obtain ⟨rfl, hp, hb⟩ := clo_out hq HB.out
      have HP := Lib.hid hp
      have HB2 := Lib.hid hb
      clear hp hb hq HC
      go_wp2_with fail
      go_ret2
      exact out_same HP.out HB2.out
    · have hno : Nm.doR l O = (l, 142) := by
        unfold Nm.doR
        rw [if_neg (by omega), if_neg (by omega)]
        dsimp only
        rw [if_pos (by rw [hl]; exact hf)]
      rw [hno]
      rw [if_neg hf, if_neg hf] at hR
      have HR := Lib.hid hR
      clear hR hi hz hr hl hno hB
      go_enter Tryz.func46, Tryz.ntmps46
      go_wp2_with fail
      refine HR.out.mono ?_
      rintro e w1 ⟨q, c, rfl, hp, hb⟩
      have HP := Lib.hid hp
      have HB := Lib.hid hb
      clear hp hb HR
      go_wp2_with fail
      go_ret2
      exact out_same HP.out HB.out
  · have hR := reach_no p n d l O.s w hl hn hz hi hr
    have HR := Lib.hid hR
    rw [doP_no hr, if_neg (by omega)]
    clear hR hi hz hr hl hB
    go_enter Tryz.func46, Tryz.ntmps46
    go_wp2_with fail
    refine HR.out.mono ?_
    rintro e w1 ⟨rfl, hb⟩
    have HB := Lib.hid hb
    clear hb HR
    go_wp2_with fail
    go_ret2
    exact out_same (pown_nil _ _) HB.out
set_option maxRecDepth 100000 in
set_option maxHeartbeats 8000000 in
theorem switch_any (p : Option Addr) (n d : Nat) (l : List Prx) (O : NOp) (w : World) (hkd : O.kind = 2) (hl : l.length = n) (hn : n ≤ 1000000) (hz : Lean14 l) (hi : PrxIn w p n l) :
    Calls Tryz.prog 27 #[.slice p n d, .string O.s, .bool O.on] w (OutDo (Nm.doP l O).1 (Nm.doP l O).2 w) := by
  obtain ⟨w1, hw1⟩ : ∃ w1, w.alloc (.cells #[.bool O.on] 4) = w1 := ⟨_, rfl⟩
  have hb1 : Below w.heap.size w w1 := by rw [← hw1]; exact (Below.refl _ _).alloc (Nat.le_refl _) _
  have h1 : w1.heap[w.heap.size]? = some (.cells #[.bool O.on] 4 (0, 0)) := by rw [← hw1]; exact heap_alloc_new _ _
  have HX := Lib.hid (chgSwitch_any p n d l O w1 w.heap.size hkd hl hn hz (prxs_on hi hb1) (cell_of_row _ _ 0 _ _ _ h1))
  have HW := Lib.hid hw1
  have HB := Lib.hid hb1
  clear hi hl hz hw1 hb1 h1
  go_enter Tryz.func27, Tryz.ntmps27
  go_wp2_with fail
  rw [HW.out]
  refine HX.out.mono ?_
  rintro e w2 ⟨q, m, c, rfl, hp, hb⟩
  have HP := Lib.hid (hp.low HB.out.size)
  have HB2 := Lib.hid (seqB HB.out hb)
  clear hp hb HX
  go_wp2_with fail
  go_ret2
  exact out_same HP.out HB2.out
end Go.Proofs.YtmghkcjljnlocaaGreatDoor

/-
  Contracts: change with each closure, and the calls that change a proxy. Conditions: the names' lengths.
-/
import Derived.Test.YtmghkcjljnlocaaGreatDoorPS
import Derived.Test.YtmghkcjljnlocaaGreatDoorPQ
namespace Go.Proofs.YtmghkcjljnlocaaGreatDoor
open Go.RowKit
set_option maxRecDepth 100000 in
set_option maxHeartbeats 8000000 in
theorem chgDropToxic_any (p : Option Addr) (n d : Nat) (l : List Prx) (O : NOp) (w : World) (B : Nat) (hkd : O.kind = 4) (hl : l.length = n) (hn : n ≤ 1000000) (hz : Lean14 l) (hi : PrxIn w p n l) (hB : w.cell? ⟨B, 0, none⟩ = some (.string O.x)) :
    Calls Tryz.prog 46 #[.slice p n d, .string O.s, .func (.func 48) #[] #[ptr B]] w (OutDo (Nm.doP l O).1 (Nm.doP l O).2 w) := by
  by_cases hr : Nm.Right l
  · have h8 : n ≤ 8 := by rw [← hl]; exact hr.few
    have hR := reach_yes p n d l O.s w hl hz hi hr
    rw [doP_yes hr]
    by_cases hf : Nm.fP l O.s < n
    · rw [Nm.do_tox (Or.inr (Or.inl hkd)) (by rw [hl]; exact hf)]
      dsimp only
      rw [if_pos hf, if_pos hf] at hR
      have HR := Lib.hid hR
      have HR8 := Lib.hid (right_few hr (K := Nm.fP l O.s) (by rw [hl]; exact hf))
      have HBX := Lib.hid hB
      generalize Nm.fP l O.s = K at *
      have hK1 : (K : Int) < (n : Int) := by omega
      obtain ⟨x, hx⟩ : ∃ x, l.getD K noPrx = x := ⟨_, rfl⟩
      rw [hx] at HR8 ⊢
      have HXX := Lib.hid hx
      clear hR hi hz hr hl hB hx
      go_enter Tryz.func46, Tryz.ntmps46
      go_wp2_with fail
      refine HR.out.mono ?_
      rintro e w1 ⟨q, c, rfl, ⟨zs, rfl, h1, h2⟩, hb⟩
      obtain ⟨b1, o1, cur1, rfl, hb1, hh1, _⟩ := h1.blk (by omega)
      have hlz := h1.len
      have hma := map_at zs (K := K) (by omega)
      have hex := hma.symm.trans HXX.out
      have hR8 : (zs.getD K noRP).x.ts.length ≤ 8 := by rw [hex]; exact HR8.out
      have hC := cloDrop_any h1 h2 hf _ rfl hb.size O hkd hR8 ((hb.cell (World.block_lt_of_cell? w _ HBX.out)).trans HBX.out)
      rw [hex] at hC
      have HC := Lib.hid hC
      have HB := Lib.hid hb
      clear h1 h2 hb hb1 hh1 HR hlz hma hex hR8 hC HXX
      go_wp2_with fail
      refine HC.out.mono ?_
      intro e w2 hq
      obtain ⟨rfl, hp, hb⟩ := clo_out hq HB.out
      have HP := Lib.hid hp
      have HB2 := Lib.hid hb
      clear hp hb hq HC
      go_wp2_with fail
      go_ret2
      exact out_same HP.out HB2.out
    · have hno : Nm.doR l O = (l, 142) := by
        unfold Nm.doR
        rw [if_neg (by omega), if_neg (by omega)]
        dsimp only
        rw [if_pos (by rw [hl]; exact hf)]
      rw [hno]
      rw [if_neg hf, if_neg hf] at hR
      have HR := Lib.hid hR
      clear hR hi hz hr hl hno hB
      go_enter Tryz.func46, Tryz.ntmps46
      go_wp2_with fail
      refine HR.out.mono ?_
      rintro e w1 ⟨q, c, rfl, hp, hb⟩
      have HP := Lib.hid hp
      have HB := Lib.hid hb
      clear hp hb HR
      go_wp2_with fail
      go_ret2
      exact out_same HP.out HB.out
  · have hR := reach_no p n d l O.s w hl hn hz hi hr
    have HR := Lib.hid hR
    rw [doP_no hr, if_neg (by omega)]
    clear hR hi hz hr hl hB
    go_enter Tryz.func46, Tryz.ntmps46
    go_wp2_with fail
    refine HR.out.mono ?_
    rintro e w1 ⟨rfl, hb⟩
    have HB := Lib.hid hb
    clear hb HR
    go_wp2_with fail
    go_ret2
    exact out_same (pown_nil _ _) HB.out
set_option maxRecDepth 100000 in
set_option maxHeartbeats 8000000 in
theorem dropToxic_any (p : Option Addr) (n d : Nat) (l : List Prx) (O : NOp) (w : World) (hkd : O.kind = 4) (hl : l.length = n) (hn : n ≤ 1000000) (hz : Lean14 l) (hi : PrxIn w p n l) :
    Calls Tryz.prog 23 #[.slice p n d, .string O.s, .string O.x] w (OutDo (Nm.doP l O).1 (Nm.doP l O).2 w) := by
  obtain ⟨w1, hw1⟩ : ∃ w1, w.alloc (.cells #[.string O.x] 9) = w1 := ⟨_, rfl⟩
  have hb1 : Below w.heap.size w w1 := by rw [← hw1]; exact (Below.refl _ _).alloc (Nat.le_refl _) _
  have h1 : w1.heap[w.heap.size]? = some (.cells #[.string O.x] 9 (0, 0)) := by rw [← hw1]; exact heap_alloc_new _ _
  have HX := Lib.hid (chgDropToxic_any p n d l O w1 w.heap.size hkd hl hn hz (prxs_on hi hb1) (cell_of_row _ _ 0 _ _ _ h1))
  have HW := Lib.hid hw1
  have HB := Lib.hid hb1
  clear hi hl hz hw1 hb1 h1
  go_enter Tryz.func23, Tryz.ntmps23
  go_wp2_with fail
  rw [HW.out]
  refine HX.out.mono ?_
  rintro e w2 ⟨q, m, c, rfl, hp, hb⟩
  have HP := Lib.hid (hp.low HB.out.size)
  have HB2 := Lib.hid (seqB HB.out hb)
  clear hp hb HX
  go_wp2_with fail
  go_ret2
  exact out_same HP.out HB2.out
set_option maxRecDepth 100000 in
set_option maxHeartbeats 8000000 in
theorem chgSetToxic_any (p : Option Addr) (n d : Nat) (l : List Prx) (O : NOp) (w : World) (B : Nat) (hkd : O.kind = 5) (hs : O.t.s.size ≤ maxLen) (hl : l.length = n) (hn : n ≤ 1000000) (hz : Lean14 l) (hi : PrxIn w p n l) (hB : TBox w B O.t) :
    Calls Tryz.prog 46 #[.slice p n d, .string O.s, .func (.func 63) #[] #[ptr B]] w (OutDo (Nm.doP l O).1 (Nm.doP l O).2 w) := by
  by_cases hr : Nm.Right l
  · have h8 : n ≤ 8 := by rw [← hl]; exact hr.few
    have hR := reach_yes p n d l O.s w hl hz hi hr
    rw [doP_yes hr]
    by_cases hf : Nm.fP l O.s < n
    · rw [Nm.do_tox (Or.inr (Or.inr hkd)) (by rw [hl]; exact hf)]
      dsimp only
      rw [if_pos hf, if_pos hf] at hR
      have HR := Lib.hid hR
      have HR8 := Lib.hid (right_few hr (K := Nm.fP l O.s) (by rw [hl]; exact hf))
      have HBX := Lib.hid hB
      generalize Nm.fP l O.s = K at *
      have hK1 : (K : Int) < (n : Int) := by omega
      obtain ⟨x, hx⟩ : ∃ x, l.getD K noPrx = x := ⟨_, rfl⟩
      rw [hx] at HR8 ⊢
      have HXX := Lib.hid hx
      clear hR hi hz hr hl hB hx
      go_enter Tryz.func46, Tryz.ntmps46
      go_wp2_with fail
      refine HR.out.mono ?_
      rintro e w1 ⟨q, c, rfl, ⟨zs, rfl, h1, h2⟩, hb⟩
      obtain ⟨b1, o1, cur1, rfl, hb1, hh1, _⟩ := h1.blk (by omega)
      have hlz := h1.len
      have hma := map_at zs (K := K) (by omega)
      have hex := hma.symm.trans HXX.out
      have hR8 : (zs.getD K noRP).x.ts.length ≤ 8 := by rw [hex]; exact HR8.out
      have hC := cloSet_any h1 h2 hf _ rfl hb.size O hkd hs hR8 (HBX.out.on hb)
      rw [hex] at hC
      have HC := Lib.hid hC
      have HB := Lib.hid hb
      clear h1 h2 hb hb1 hh1 HR hlz hma hex hR8 hC HXX
      go_wp2_with fail
      refine HC.out.mono ?_
      intro e w2 hq
      obtain ⟨rfl, hp, hb⟩ := clo_out hq HB.out
      have HP := Lib.hid hp
      have HB2 := Lib.hid hb
      clear hp hb hq HC
      go_wp2_with fail
      go_ret2
      exact out_same HP.out HB2.out
    · have hno : Nm.doR l O = (l, 142) := by
        unfold Nm.doR
        rw [if_neg (by omega), if_neg (by omega)]
        dsimp only
        rw [if_pos (by rw [hl]; exact hf)]
      rw [hno]
      rw [if_neg hf, if_neg hf] at hR
      have HR := Lib.hid hR
      clear hR hi hz hr hl hno hB
      go_enter Tryz.func46, Tryz.ntmps46
      go_wp2_with fail
      refine HR.out.mono ?_
      rintro e w1 ⟨q, c, rfl, hp, hb⟩
      have HP := Lib.hid hp
      have HB := Lib.hid hb
      clear hp hb HR
      go_wp2_with fail
      go_ret2
      exact out_same HP.out HB.out
  · have hR := reach_no p n d l O.s w hl hn hz hi hr
    have HR := Lib.hid hR
    rw [doP_no hr, if_neg (by omega)]
    clear hR hi hz hr hl hB
    go_enter Tryz.func46, Tryz.ntmps46
    go_wp2_with fail
    refine HR.out.mono ?_
    rintro e w1 ⟨rfl, hb⟩
    have HB := Lib.hid hb
    clear hb HR
    go_wp2_with fail
    go_ret2
    exact out_same (pown_nil _ _) HB.out
set_option maxRecDepth 100000 in
set_option maxHeartbeats 8000000 in
theorem setToxic_any (p : Option Addr) (n d : Nat) (l : List Prx) (O : NOp) (w : World) (hkd : O.kind = 5) (hs : O.t.s.size ≤ maxLen) (hl : l.length = n) (hn : n ≤ 1000000) (hz : Lean14 l) (hi : PrxIn w p n l) :
    Calls Tryz.prog 29 #[.slice p n d, .string O.s, .agg #[.string O.t.s, .int .i64 O.t.k, .bool O.t.up, .int .i64 O.t.o, .int .i64 O.t.a, .int .i64 O.t.b]] w (OutDo (Nm.doP l O).1 (Nm.doP l O).2 w) := by
  obtain ⟨w1, hw1⟩ : ∃ w1, w.alloc (.cells #[.string O.t.s, .int .i64 O.t.k, .bool O.t.up, .int .i64 O.t.o, .int .i64 O.t.a, .int .i64 O.t.b] TT) = w1 := ⟨_, rfl⟩
  have hb1 : Below w.heap.size w w1 := by rw [← hw1]; exact (Below.refl _ _).alloc (Nat.le_refl _) _
  have h1 : w1.heap[w.heap.size]? = some (.cells #[.string O.t.s, .int .i64 O.t.k, .bool O.t.up, .int .i64 O.t.o, .int .i64 O.t.a, .int .i64 O.t.b] TT (0, 0)) := by rw [← hw1]; exact heap_alloc_new _ _
  have HX := Lib.hid (chgSetToxic_any p n d l O w1 w.heap.size hkd hs hl hn hz (prxs_on hi hb1) (h1))
  have HW := Lib.hid hw1
  have HB := Lib.hid hb1
  clear hi hl hz hw1 hb1 h1
  go_enter Tryz.func29, Tryz.ntmps29
  go_wp2_with fail
  rw [HW.out]
  refine HX.out.mono ?_
  rintro e w2 ⟨q, m, c, rfl, hp, hb⟩
  have HP := Lib.hid (hp.low HB.out.size)
  have HB2 := Lib.hid (seqB HB.out hb)
  clear hp hb HX
  go_wp2_with fail
  go_ret2
  exact out_same HP.out HB2.out
end Go.Proofs.YtmghkcjljnlocaaGreatDoor

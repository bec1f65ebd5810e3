/-
  Contracts of Reset, kind, does; rows of the document's own, its put, its toxics. Conditions: as each states.
-/
import Derived.Test.YtmghkcjljnlocaaGreatDoorPR
import Derived.Test.YtmghkcjljnlocaaGreatDoorPW
import Derived.BigQuiet
import Derived.Deep.RegionHeldLaw
import Derived.Deep.RegionLaw
namespace Go.Proofs.YtmghkcjljnlocaaGreatDoor
open Go.RowKit
def reset1 (p : Prx) : Prx := ⟨p.s, true, p.most, []⟩
/-- A list of the call's own is told. -/
def OutL (l' : List Prx) (w : World) (e : Ending) (w' : World) : Prop := ∃ q n c, e = .returned (.slice q n c) ∧ POwn w' w.heap.size q n c l' ∧ Below w.heap.size w w'
set_option maxRecDepth 100000 in
set_option maxHeartbeats 8000000 in
theorem reset_any (p : Option Addr) (n d : Nat) (l : List Prx) (O : NOp) (w : World) (hkd : O.kind = 6) (hl : l.length = n) (hn : n ≤ 1000000) (hz : Lean14 l) (hi : PrxIn w p n l) :
    Calls Tryz.prog 30 #[.slice p n d] w fun e w' => OutL (Nm.doP l O).1 w e w' ∧ (Nm.doP l O).2 = 0 := by
  have hR := right_any p n d l w hl hn hz hi
  by_cases hr : Nm.Right l
  · rw [right_yes hr] at hR
    have h8 : n ≤ 8 := by rw [← hl]; exact hr.few
    have hdo : Nm.doP l O = (l.map reset1, 0) := by
      rw [doP_yes hr]
      unfold Nm.doR
      rw [if_neg (by omega), if_pos hkd]
      rfl
    rw [hdo]
    have HR := Lib.hid hR
    have HI := Lib.hid hi
    have HL := Lib.hid hl
    clear hR hi hl hr hdo hz
    go_enter Tryz.func30, Tryz.ntmps30
    go_wp2_with fail
    refine HR.out.mono ?_
    rintro e w1 ⟨rfl, hb⟩
    have HB1 := Lib.hid hb
    clear hb HR
    go_wp2_with fail
    go_loopw [3, 5, 11] (fun x y i wr => ∃ k : Nat, k ≤ n ∧ i = .int .i64 k ∧ ∃ q c, x = .slice q k c ∧ Hid (POwn wr w.heap.size q k c ((l.take k).map reset1)) ∧ Hid (Below w.heap.size w wr)) (fun _ _ i _ => n - (intOf i).toNat)
    case atStart => exact ⟨0, by omega, rfl, none, 0, rfl, Lib.hid (pown_nil w1 w.heap.size), HB1⟩
    case round =>
      clear HB1
      obtain ⟨k, hk, rfl, q, c, rfl, HO, HB⟩ := hrel
      by_cases hlt : k < n
      · obtain ⟨b, o, rfl, hcell⟩ := prxs_on HI.out HB.out (by omega)
        obtain ⟨c0, c1, c2, qt, mt, dt, c3, hmd, hlt2, htx⟩ := hcell k hlt
        rw [← Nat.add_assoc] at c1 c2 c3
        have hkl : k < l.length := by rw [HL.out]; exact hlt
        have hg : l.getD k noPrx = l[k] := getD_at _ _ hkl
        have HT := Lib.hid (show (l.take (k + 1)).map reset1 = (l.take k).map reset1 ++ [reset1 (l.getD k noPrx)] from by rw [hg, List.take_succ_eq_append_getElem hkl, List.map_append]; rfl)
        generalize l.getD k noPrx = x at *
        obtain ⟨xs, xon, xm, xt⟩ := x
        simp only at c0 c1 c2 hlt2 htx
        have hal0 : Below wr.heap.size wr (wr.alloc (.cells #[.string xs, .bool xon, .int .i64 xm, .slice qt mt dt] TP)) := (Below.refl _ _).alloc (Nat.le_refl _) _
        obtain ⟨zs, hz1, hz2, hdis⟩ := HO.out
        have hal : Below wr.heap.size wr ((wr.alloc (.cells #[.string xs, .bool xon, .int .i64 xm, .slice qt mt dt] TP)).alloc (.cells #[.string xs, .bool true, .int .i64 xm, .slice none 0 0] TP)) := seqB hal0 ((Below.refl _ _).alloc (Nat.le_refl _) _)
        have hs0 : (wr.alloc (.cells #[.string xs, .bool xon, .int .i64 xm, .slice qt mt dt] TP)).heap.size = wr.heap.size + 1 := World.size_alloc _ _
        have hnew := heap_alloc_new (wr.alloc (.cells #[.string xs, .bool xon, .int .i64 xm, .slice qt mt dt] TP)) (.cells #[.string xs, .bool true, .int .i64 xm, .slice none 0 0] TP)
        rw [hs0] at hnew
        obtain ⟨q3, c3', w3, r1, r2, r3⟩ := PRow.app (hz2.on hal) (Nat.le_trans HB.out.size hal.size) (by omega) (a := ⟨wr.heap.size + 1, 0, none⟩) (d := 1) ⟨⟨xs, true, xm, []⟩, none, 0, 0⟩ (gc.orow_nil _ _ _ _) (fun j u hj => by
          rw [WideShapes.add_plain]
          simp only [World.cell?, hnew]
          rw [Nat.zero_add]
          simpa [RP.cells] using hj)
        have HR := Lib.hid r1
        have HO3 := Lib.hid (show POwn w3 w.heap.size q3 (k + 1) c3' ((l.take (k + 1)).map reset1) from ⟨zs ++ [⟨⟨xs, true, xm, []⟩, none, 0, 0⟩], by rw [List.map_append, hz1, HT.out]; rfl, r2, dis_app hdis fun y hy a a' e e' => by cases e'⟩)
        have HB3 := Lib.hid ((HB.out.trans (hal.mono HB.out.size)).trans r3)
        clear r1 r2 r3 hz1 hz2 hdis hal hal0 hnew hs0 HT HO hcell hkl hg htx hlt2
        go_wp2_with (at_builtin; refine Lib.wpList_append_run _ rfl _ _ _ _ rfl (.slice q k c) (.slice (some ⟨wr.heap.size + 1, 0, none⟩) 1 1) rfl rfl _ _ (HR.out _) ?_)
        go_roundw
        case rel => exact ⟨k + 1, by omega, by go_num, q3, c3', rfl, HO3, HB3⟩
        case measure => simp [intOf]; omega
      · obtain rfl : k = n := by omega
        have HE := Lib.hid (show l.take k = l from List.take_of_length_le (by rw [HL.out]; exact Nat.le_refl _))
        go_wp2_with fail
        go_ret
        exact ⟨⟨q, k, c, rfl, by have h := HO.out; rwa [HE.out] at h, HB.out⟩, by first | rfl | trivial⟩
  · rw [right_no hr] at hR
    have HR := Lib.hid hR
    rw [doP_no hr, if_pos hkd]
    clear hR hi hz hr hl
    go_enter Tryz.func30, Tryz.ntmps30
    go_wp2_with fail
    refine HR.out.mono ?_
    rintro e w1 ⟨rfl, hb⟩
    have HB := Lib.hid hb
    clear hb HR
    go_wp2_with fail
    go_ret
    exact ⟨⟨none, 0, 0, rfl, pown_nil _ _, HB.out⟩, by first | rfl | trivial⟩
def nopV (o : NOp) : Value := .agg #[.int .i64 o.kind, .int .i64 o.n, .string o.s, .string o.x, .bool o.on, .string o.t.s, .int .i64 o.t.k, .bool o.t.up, .int .i64 o.t.o, .int .i64 o.t.a, .int .i64 o.t.b]
def nopC (o : NOp) : Obj := .cells #[.int .i64 o.kind, .int .i64 o.n, .string o.s, .string o.x, .bool o.on, .string o.t.s, .int .i64 o.t.k, .bool o.t.up, .int .i64 o.t.o, .int .i64 o.t.a, .int .i64 o.t.b] 26
structure NOp.Fit (o : NOp) : Prop where
  lo : 0 ≤ o.kind
  hi : o.kind ≤ 6
  s : o.s.size ≤ 100
  t : o.t.s.size ≤ 100
  x : o.x.size ≤ 100
theorem nop_at {W : World} {o : NOp} {B : Nat} (h : W.heap[B]? = some (nopC o)) : W.cell? ⟨B, 0, none⟩ = some (.int .i64 o.kind) ∧ W.cell? ⟨B, 1, none⟩ = some (.int .i64 o.n) ∧ W.cell? ⟨B, 2, none⟩ = some (.string o.s) ∧ W.cell? ⟨B, 3, none⟩ = some (.string o.x) ∧ W.cell? ⟨B, 4, none⟩ = some (.bool o.on) ∧
    W.cell? ⟨B, 5, none⟩ = some (.string o.t.s) ∧ W.cell? ⟨B, 6, none⟩ = some (.int .i64 o.t.k) ∧ W.cell? ⟨B, 7, none⟩ = some (.bool o.t.up) ∧ W.cell? ⟨B, 8, none⟩ = some (.int .i64 o.t.o) ∧ W.cell? ⟨B, 9, none⟩ = some (.int .i64 o.t.a) ∧ W.cell? ⟨B, 10, none⟩ = some (.int .i64 o.t.b) := by
  simp [World.cell?, h, nopC]
/-- What kind tells. -/
def OutKd (F : Prop) (w : World) (e : Ending) (w' : World) : Prop := ∃ b, e = .returned (.bool b) ∧ (b = true ↔ F) ∧ Below w.heap.size w w'
set_option maxRecDepth 100000 in
set_option maxHeartbeats 8000000 in
theorem kind_any (o : NOp) (w : World) (hs : o.s.size ≤ maxLen) (ht : o.t.s.size ≤ maxLen) (hx : o.x.size ≤ maxLen) :
    Calls Tryz.prog 10 #[nopV o] w (OutKd o.Fit w) := by
  have HB := Lib.hid (show Below w.heap.size w (w.alloc (nopC o)) from (Below.refl _ _).alloc (Nat.le_refl _) _)
  have HF := Lib.hid (show o.Fit ↔ (0 ≤ o.kind ∧ o.kind ≤ 6 ∧ o.s.size ≤ 100 ∧ o.t.s.size ≤ 100 ∧ o.x.size ≤ 100) from ⟨fun h => ⟨h.1, h.2, h.3, h.4, h.5⟩, fun h => ⟨h.1, h.2.1, h.2.2.1, h.2.2.2.1, h.2.2.2.2⟩⟩)
  generalize o.Fit = F at HF
  obtain ⟨kd, n, s, x, on, ⟨ts, tk, tu, t2, ta, tb⟩⟩ := o
  unfold nopV
  unfold nopC at HB
  dsimp only at hs ht hx HF HB ⊢
  unfold maxLen at hs ht hx
  go_enter Tryz.func10, Tryz.ntmps10
  by_cases h1 : 0 ≤ kd
  · have k1 : decide ((0 : Int) ≤ kd) = true := decide_eq_true h1
    by_cases h2 : kd ≤ 6
    · have k2 : decide (kd ≤ (6 : Int)) = true := decide_eq_true h2
      by_cases h3 : s.size ≤ 100
      · have k3 : decide ((s.size : Int) ≤ 100) = true := decide_eq_true (by omega)
        by_cases h4 : ts.size ≤ 100
        · have k4 : decide ((ts.size : Int) ≤ 100) = true := decide_eq_true (by omega)
          by_cases h5 : x.size ≤ 100
          · have k5 : decide ((x.size : Int) ≤ 100) = true := decide_eq_true (by omega)
            go_wp2_with fail
            go_ret
            exact ⟨true, rfl, ⟨fun _ => HF.out.2 ⟨h1, h2, h3, h4, h5⟩, fun _ => rfl⟩, HB.out⟩
          · have k5 : decide ((x.size : Int) ≤ 100) = false := decide_eq_false (by omega)
            go_wp2_with fail
            go_ret
            exact ⟨false, rfl, ⟨fun h => (by cases h), fun h => absurd (HF.out.1 h).2.2.2.2 h5⟩, HB.out⟩
        · have k4 : decide ((ts.size : Int) ≤ 100) = false := decide_eq_false (by omega)
          go_wp2_with fail
          go_ret
          exact ⟨false, rfl, ⟨fun h => (by cases h), fun h => absurd (HF.out.1 h).2.2.2.1 h4⟩, HB.out⟩
      · have k3 : decide ((s.size : Int) ≤ 100) = false := decide_eq_false (by omega)
        go_wp2_with fail
        go_ret
        exact ⟨false, rfl, ⟨fun h => (by cases h), fun h => absurd (HF.out.1 h).2.2.1 h3⟩, HB.out⟩
    · have k2 : decide (kd ≤ (6 : Int)) = false := decide_eq_false (by omega)
      go_wp2_with fail
      go_ret
      exact ⟨false, rfl, ⟨fun h => (by cases h), fun h => absurd (HF.out.1 h).2.1 (by omega)⟩, HB.out⟩
  · have k1 : decide ((0 : Int) ≤ kd) = false := decide_eq_false (by omega)
    go_wp2_with fail
    go_ret
    exact ⟨false, rfl, ⟨fun h => (by cases h), fun h => absurd (HF.out.1 h).1 (by omega)⟩, HB.out⟩
set_option maxRecDepth 100000 in
set_option maxHeartbeats 16000000 in
theorem does_any (p : Option Addr) (n d : Nat) (l : List Prx) (O : NOp) (w : World) (hf : O.Fit) (hl : l.length = n) (hn : n ≤ 1000000) (hz : Lean14 l) (hi : PrxIn w p n l) :
    Calls Tryz.prog 12 #[.slice p n d, nopV O] w (OutDo (Nm.doP l O).1 (Nm.doP l O).2 w) := by
  have hc : O.kind = 0 ∨ O.kind = 1 ∨ O.kind = 2 ∨ O.kind = 3 ∨ O.kind = 4 ∨ O.kind = 5 ∨ O.kind = 6 := by
    have := hf.lo
    have := hf.hi
    omega
  obtain ⟨w1, hw1⟩ : ∃ w1, w.alloc (nopC O) = w1 := ⟨_, rfl⟩
  have hb1 : Below w.heap.size w w1 := by rw [← hw1]; exact (Below.refl _ _).alloc (Nat.le_refl _) _
  have h1 : w1.heap[w.heap.size]? = some (nopC O) := by rw [← hw1]; exact heap_alloc_new _ _
  have hi1 := prxs_on hi hb1
  have HB := Lib.hid hb1
  rcases hc with h | h | h | h | h | h | h
  · have HX := Lib.hid (add_any p n d l O w1 h (by unfold maxLen; have := hf.s; omega) hl hn hz hi1)
    clear hl hn hz hi hf h1 hi1 hb1
    generalize Nm.doP l O = Y at HX ⊢
    obtain ⟨kd, n, s, x, on, ⟨ts, tk, tu, t2, ta, tb⟩⟩ := O
    unfold nopC at hw1
    unfold nopV
    dsimp only at hw1 HX h ⊢
    subst h
    have HW := Lib.hid hw1
    clear hw1
    go_enter Tryz.func12, Tryz.ntmps12
    go_wp2_with fail
    rw [HW.out]
    refine HX.out.mono ?_
    rintro e w2 ⟨q, m, c, rfl, hp, hb⟩
    have HP := Lib.hid (hp.low HB.out.size)
    have HB2 := Lib.hid (seqB HB.out hb)
    clear hp hb HX
    go_wp2_with fail
    go_ret2
    exact out_same HP.out HB2.out
  · have HX := Lib.hid (drop_any p n d l O w1 h  hl hn hz hi1)
    clear hl hn hz hi hf h1 hi1 hb1
    generalize Nm.doP l O = Y at HX ⊢
    obtain ⟨kd, n, s, x, on, ⟨ts, tk, tu, t2, ta, tb⟩⟩ := O
    unfold nopC at hw1
    unfold nopV
    dsimp only at hw1 HX h ⊢
    subst h
    have HW := Lib.hid hw1
    clear hw1
    go_enter Tryz.func12, Tryz.ntmps12
    go_wp2_with fail
    rw [HW.out]
    refine HX.out.mono ?_
    rintro e w2 ⟨q, m, c, rfl, hp, hb⟩
    have HP := Lib.hid (hp.low HB.out.size)
    have HB2 := Lib.hid (seqB HB.out hb)
    clear hp hb HX
    go_wp2_with fail
    go_ret2
    exact out_same HP.out HB2.out
  · have HX := Lib.hid (switch_any p n d l O w1 h  hl hn hz hi1)
    clear hl hn hz hi hf h1 hi1 hb1
    generalize Nm.doP l O = Y at HX ⊢
    obtain ⟨kd, n, s, x, on, ⟨ts, tk, tu, t2, ta, tb⟩⟩ := O
    unfold nopC at hw1
    unfold nopV
    dsimp only at hw1 HX h ⊢
    subst h
    have HW := Lib.hid hw1
    clear hw1
    go_enter Tryz.func12, Tryz.ntmps12
    go_wp2_with fail
    rw [HW.out]
    refine HX.out.mono ?_
    rintro e w2 ⟨q, m, c, rfl, hp, hb⟩
    have HP := Lib.hid (hp.low HB.out.size)
    have HB2 := Lib.hid (seqB HB.out hb)
    clear hp hb HX
    go_wp2_with fail
    go_ret2
    exact out_same HP.out HB2.out
  · have HX := Lib.hid (addToxic_any p n d l O w1 h (by unfold maxLen; have := hf.t; omega) hl hn hz hi1)
    clear hl hn hz hi hf h1 hi1 hb1
    generalize Nm.doP l O = Y at HX ⊢
    obtain ⟨kd, n, s, x, on, ⟨ts, tk, tu, t2, ta, tb⟩⟩ := O
    unfold nopC at hw1
    unfold nopV
    dsimp only at hw1 HX h ⊢
    subst h
    have HW := Lib.hid hw1
    clear hw1
    go_enter Tryz.func12, Tryz.ntmps12
    go_wp2_with fail
    rw [HW.out]
    refine HX.out.mono ?_
    rintro e w2 ⟨q, m, c, rfl, hp, hb⟩
    have HP := Lib.hid (hp.low HB.out.size)
    have HB2 := Lib.hid (seqB HB.out hb)
    clear hp hb HX
    go_wp2_with fail
    go_ret2
    exact out_same HP.out HB2.out
  · have HX := Lib.hid (dropToxic_any p n d l O w1 h  hl hn hz hi1)
    clear hl hn hz hi hf h1 hi1 hb1
    generalize Nm.doP l O = Y at HX ⊢
    obtain ⟨kd, n, s, x, on, ⟨ts, tk, tu, t2, ta, tb⟩⟩ := O
    unfold nopC at hw1
    unfold nopV
    dsimp only at hw1 HX h ⊢
    subst h
    have HW := Lib.hid hw1
    clear hw1
    go_enter Tryz.func12, Tryz.ntmps12
    go_wp2_with fail
    rw [HW.out]
    refine HX.out.mono ?_
    rintro e w2 ⟨q, m, c, rfl, hp, hb⟩
    have HP := Lib.hid (hp.low HB.out.size)
    have HB2 := Lib.hid (seqB HB.out hb)
    clear hp hb HX
    go_wp2_with fail
    go_ret2
    exact out_same HP.out HB2.out
  · have HX := Lib.hid (setToxic_any p n d l O w1 h (by unfold maxLen; have := hf.t; omega) hl hn hz hi1)
    clear hl hn hz hi hf h1 hi1 hb1
    generalize Nm.doP l O = Y at HX ⊢
    obtain ⟨kd, n, s, x, on, ⟨ts, tk, tu, t2, ta, tb⟩⟩ := O
    unfold nopC at hw1
    unfold nopV
    dsimp only at hw1 HX h ⊢
    subst h
    have HW := Lib.hid hw1
    clear hw1
    go_enter Tryz.func12, Tryz.ntmps12
    go_wp2_with fail
    rw [HW.out]
    refine HX.out.mono ?_
    rintro e w2 ⟨q, m, c, rfl, hp, hb⟩
    have HP := Lib.hid (hp.low HB.out.size)
    have HB2 := Lib.hid (seqB HB.out hb)
    clear hp hb HX
    go_wp2_with fail
    go_ret2
    exact out_same HP.out HB2.out
  · have HX := Lib.hid (reset_any p n d l O w1 h hl hn hz hi1)
    clear hl hn hz hi hf h1 hi1 hb1
    generalize Nm.doP l O = Y at HX ⊢
    obtain ⟨kd, n, s, x, on, ⟨ts, tk, tu, t2, ta, tb⟩⟩ := O
    unfold nopC at hw1
    unfold nopV
    dsimp only at hw1 HX h ⊢
    subst h
    have HW := Lib.hid hw1
    clear hw1
    go_enter Tryz.func12, Tryz.ntmps12
    go_wp2_with fail
    rw [HW.out]
    refine HX.out.mono ?_
    rintro e w2 ⟨⟨q, m, c, rfl, hp, hb⟩, hz0⟩
    have HP := Lib.hid (hp.low HB.out.size)
    have HB2 := Lib.hid (seqB HB.out hb)
    have HZ := Lib.hid hz0
    clear hp hb HX hz0
    go_wp2_with fail
    go_ret2
    rw [HZ.out]
    exact out_same HP.out HB2.out
/-- A slice's cells can be read. -/
def RdC (w : World) (p : Option Addr) (n K : Nat) (vs : List Value) : Prop := vs.length = n * K ∧ (0 < n → ∃ b o, p = some ⟨b, o, none⟩ ∧ ∀ j u, vs[j]? = some u → w.cell? ⟨b, o + j, none⟩ = some u)
theorem RdC.at {w : World} {a : Addr} {n K : Nat} {vs : List Value} (h : RdC w (some a) n K vs) : ∀ j u, vs[j]? = some u → w.cell? (a.add j) = some u := fun j u hj => by
  have hj1 := (List.getElem?_eq_some_iff.mp hj).1
  rw [h.1] at hj1
  have hn : 0 < n := Nat.pos_of_ne_zero fun g => by
    rw [g, Nat.zero_mul] at hj1
    omega
  obtain ⟨b, o, e, hc⟩ := h.2 hn
  cases e
  rw [WideShapes.add_plain]
  exact hc j u hj
theorem RdC.on {w w' : World} {p : Option Addr} {n K : Nat} {vs : List Value} (h : RdC w p n K vs) (hb : Below w.heap.size w w') : RdC w' p n K vs := ⟨h.1, fun hn => by
  obtain ⟨b, o, e, hc⟩ := h.2 hn
  exact ⟨b, o, e, fun j u hj => (hb.cell (World.block_lt_of_cell? w _ (hc j u hj))).trans (hc j u hj)⟩⟩
theorem tox_rd {w : World} {q : Option Addr} {m : Nat} {l : List Tox} (hl : l.length = m) (h : ToxIn w q m l) : RdC w q m 6 (flatT l) := ⟨by rw [flatT_len, hl], fun hm => by
  obtain ⟨b, o, rfl, _⟩ := h hm
  exact ⟨b, o, rfl, fun j u hj => by have := tox_cells hl h j u hj; rwa [WideShapes.add_plain] at this⟩⟩
set_option maxRecDepth 100000 in
/-- It is appended to an empty row. -/
theorem own_at {W : World} {base g T K n c : Nat} {q : Option Addr} {vs : List Value} {t : TypeId} {i0 : TypeInfo} {z : Value} {by0 : Nat} (hg : W.heap[g]? = some (.cells #[] T (0, 0))) (hbase : base ≤ g) (ht : Tryz.prog.underlying t = some (.slice T)) (hi : Tryz.prog.info? T = some i0) (hz : i0.zero = some z)
    (h1 : i0.size = K) (h2 : i0.bytes = by0) (h3 : z.cells.size = K) (hK : 0 < K) (hr : RdC W q n K vs) (hone : ∀ u ∈ vs, u.oneCell' = true) (hmax : n ≤ maxLen) (hbytes : n * by0 ≤ 140737488355328) :
    ∃ q' d' w', (∀ ty, (Builtin.append_ #[t, t] ty #[.slice (some ⟨g, 0, none⟩) 0 0, .slice q n c]).run Tryz.prog W = .ok (.slice q' n d') w') ∧ gc.ORow w' base T K q' n d' vs ∧ W.grownBy w' (some g) ∧ Below base W w' := by
  have ho : gc.ORow W base T K (some ⟨g, 0, none⟩) 0 0 [] := ⟨by simp, Nat.le_refl _, Nat.zero_le _, (fun e => by cases e), fun x e => by
    cases e
    exact ⟨_, _, _, rfl, hbase, hg, by simp, fun j v hj => by simp at hj⟩⟩
  cases q with
  | some a =>
    obtain ⟨q, d, w', r1, r2, r3, _⟩ := gc.app_row ho (Nat.le_trans hbase (Nat.le_of_lt (gc.blk_lt hg))) ht hi hz h1 h2 h3 hK (a := a) (m := n) (d := c) (news := vs) hr.1 hr.at hone (by omega) (by rw [Nat.zero_add]; exact hbytes)
    rw [Nat.zero_add] at r1 r2
    refine ⟨q, d, w', r1, by simpa using r2, r3, ⟨r3.os, r3.tape, r3.output, r3.size, fun i hi => r3.block i (by have := gc.blk_lt hg; omega) fun e => ?_⟩⟩
    injection e with e
    simp at e
    omega
  | none =>
    have h0 : n = 0 := by
      rcases Nat.eq_zero_or_pos n with h | h
      · exact h
      · obtain ⟨b, o, e, _⟩ := hr.2 h
        cases e
    subst h0
    obtain rfl : vs = [] := List.eq_nil_of_length_eq_zero (by rw [hr.1, Nat.zero_mul])
    refine ⟨some ⟨g, 0, none⟩, 0, W, fun ty => ?_, ho, ⟨rfl, rfl, rfl, Nat.le_refl _, fun _ _ _ => rfl⟩, Below.refl _ _⟩
    simp [Builtin.append_, run_underlying ht, sizeOf, typeInfo, hi, Builtin.lenOf, Builtin.firstCells, Addr.add_lit, storeCells, Sem.run, Result.andThen, pure]
theorem own_row {w : World} {T K n c : Nat} {q : Option Addr} {vs : List Value} {t : TypeId} {i0 : TypeInfo} {z : Value} {by0 : Nat} (ht : Tryz.prog.underlying t = some (.slice T)) (hi : Tryz.prog.info? T = some i0) (hz : i0.zero = some z)
    (h1 : i0.size = K) (h2 : i0.bytes = by0) (h3 : z.cells.size = K) (hK : 0 < K) (hr : RdC w q n K vs) (hone : ∀ u ∈ vs, u.oneCell' = true) (hmax : n ≤ maxLen) (hbytes : n * by0 ≤ 140737488355328) :
    ∃ q' d' w', (∀ ty, (Builtin.append_ #[t, t] ty #[.slice (some ⟨w.heap.size, 0, none⟩) 0 0, .slice q n c]).run Tryz.prog (w.alloc (.cells #[] T)) = .ok (.slice q' n d') w') ∧ gc.ORow w' w.heap.size T K q' n d' vs ∧ Below w.heap.size w w' := by
  have hal : Below w.heap.size w (w.alloc (.cells #[] T)) := (Below.refl _ _).alloc (Nat.le_refl _) _
  obtain ⟨q', d', w', r1, r2, _, r3⟩ := own_at (c := c) (heap_alloc_new w (.cells #[] T)) (Nat.le_refl _) ht hi hz h1 h2 h3 hK (hr.on hal) hone hmax hbytes
  exact ⟨q', d', w', r1, r2, hal.trans r3⟩
theorem tox_keep {w w' : World} {q : Option Addr} {m : Nat} {l : List Tox} (h : ToxIn w q m l) (hk : 0 < m → ∀ a, q = some a → w'.heap[a.block]? = w.heap[a.block]?) : ToxIn w' q m l := fun hn => by
  obtain ⟨b, o, e, hc⟩ := h hn
  have hb := hk hn _ e
  have key : ∀ k, w'.cell? ⟨b, k, none⟩ = w.cell? ⟨b, k, none⟩ := fun k => by
    simp only [World.cell?]
    rw [hb]
  refine ⟨b, o, e, fun i hi => ?_⟩
  simp only [key]
  exact hc i hi
theorem tox_lt {w : World} {q : Option Addr} {m : Nat} {l : List Tox} (h : ToxIn w q m l) (hm : 0 < m) : ∀ a, q = some a → a.block < w.heap.size := fun a e => by
  obtain ⟨b, o, e', hc⟩ := h hm
  rw [e] at e'
  cases e'
  exact World.block_lt_of_cell? w _ (hc 0 hm).1
/-- A proxy's toxics can be read. -/
structure RTox (w : World) (z : RP) : Prop where
  cap : z.m ≤ z.d
  len : z.x.ts.length = z.m
  rd : ToxIn w z.q z.m z.x.ts
/-- Proxies in a row of the call's own. -/
structure SRow (w : World) (base : Nat) (p : Option Addr) (n c : Nat) (zs : List RP) : Prop where
  row : gc.ORow w base TP 4 p n c (flatP zs)
  tox : ∀ z ∈ zs, RTox w z
  far : ∀ z ∈ zs, 0 < z.m → ∀ a b, z.q = some a → p = some b → a.block ≠ b.block
section
variable {w w' : World} {base n c b o : Nat} {p : Option Addr} {zs : List RP}
theorem SRow.len (h : SRow w base p n c zs) : zs.length = n := by
  have := h.row.len
  rw [flatP_len] at this
  omega
theorem rd_prx {l : List Prx} (hz : zs.map (·.x) = l) (hr : RdC w p n 4 (flatP zs)) (ht : ∀ z ∈ zs, RTox w z) : PrxIn w p n l := fun hn => by
  have hl : zs.length = n := by have := hr.1; rw [flatP_len] at this; omega
  obtain ⟨b, o, e, hc⟩ := hr.2 hn
  refine ⟨b, o, e, fun i hi => ?_⟩
  have key : ∀ j, j < 4 → ∀ v, (zs[i]'(by omega)).cells[j]? = some v → w.cell? ⟨b, o + (i * 4 + j), none⟩ = some v := fun j hj v hv => hc (i * 4 + j) v (by unfold flatP; rw [flat_get pc_len zs i (by omega) j hj]; exact hv)
  have e2 : l.getD i noPrx = (zs[i]'(by omega)).x := by
    subst hz
    rw [getD_at _ noPrx (by rw [List.length_map]; omega), List.getElem_map]
  have h := ht (zs[i]'(by omega)) (List.getElem_mem _)
  rw [e2]
  exact ⟨key 0 (by decide) _ rfl, key 1 (by decide) _ rfl, key 2 (by decide) _ rfl, _, _, _, key 3 (by decide) _ rfl, h.cap, h.len, h.rd⟩
theorem SRow.rd (h : SRow w base p n c zs) : RdC w p n 4 (flatP zs) := ⟨h.row.len, fun hn => h.row.at hn⟩
theorem SRow.prx (h : SRow w base p n c zs) : PrxIn w p n (zs.map (·.x)) := rd_prx rfl h.rd h.tox
theorem RTox.on {z : RP} (h : RTox w z) (hb : Below w.heap.size w w') : RTox w' z := ⟨h.cap, h.len, toxs_on h.rd hb⟩
theorem SRow.on (h : SRow w base p n c zs) (hb : Below w.heap.size w w') : SRow w' base p n c zs := ⟨h.row.on hb, fun z hz => (h.tox z hz).on hb, h.far⟩
theorem srow_nil (w : World) (base : Nat) : SRow w base none 0 0 [] := ⟨gc.orow_nil _ _ _ _, fun _ h => (by cases h), fun _ h => (by cases h)⟩
/-- Proxies that can be read, as they lie in memory. -/
theorem prx_zs {l : List Prx} (hl : l.length = n) (h : PrxIn w p n l) : ∃ zs : List RP, zs.map (·.x) = l ∧ RdC w p n 4 (flatP zs) ∧ ∀ z ∈ zs, RTox w z := by
  rcases Nat.eq_zero_or_pos n with g | g
  · subst g
    obtain rfl : l = [] := List.eq_nil_of_length_eq_zero hl
    exact ⟨[], rfl, ⟨rfl, fun h => absurd h (Nat.lt_irrefl _)⟩, fun _ h => by cases h⟩
  obtain ⟨b, o, e, hc⟩ := h g
  have hx : ∀ i, ∃ z : RP, i < n → z.x = l.getD i noPrx ∧ w.cell? ⟨b, o + (i * 4 + 3), none⟩ = some (.slice z.q z.m z.d) ∧ RTox w z := fun i => by
    by_cases hi : i < n
    · obtain ⟨_, _, _, q, m, d, h3, h4, h5, h6⟩ := hc i hi
      exact ⟨⟨l.getD i noPrx, q, m, d⟩, fun _ => ⟨rfl, h3, h4, h5, h6⟩⟩
    · exact ⟨noRP, fun h => absurd h hi⟩
  have hf := fun i => Classical.choose_spec (hx i)
  generalize hF : (fun i => Classical.choose (hx i)) = F at hf
  have hf : ∀ i, i < n → (F i).x = l.getD i noPrx ∧ w.cell? ⟨b, o + (i * 4 + 3), none⟩ = some (.slice (F i).q (F i).m (F i).d) ∧ RTox w (F i) := fun i => by
    have := hf i
    rw [← hF]
    exact this
  have hlen : ((List.range n).map F).length = n := by rw [List.length_map, List.length_range]
  refine ⟨(List.range n).map F, ?_, ⟨by rw [flatP_len, hlen], fun _ => ⟨b, o, e, fun j u hj => ?_⟩⟩, fun z hz => ?_⟩
  · refine List.ext_getElem (by rw [List.length_map, hlen, hl]) fun i h1 h2 => ?_
    rw [List.getElem_map, List.getElem_map, List.getElem_range, (hf i (by omega)).1, getD_at _ _ h2]
  · have hj1 := (List.getElem?_eq_some_iff.mp hj).1
    rw [flatP_len, hlen] at hj1
    have hi : j / 4 < n := by omega
    have h4 : j % 4 < 4 := Nat.mod_lt _ (by decide)
    have ej : j = j / 4 * 4 + j % 4 := by omega
    rw [ej] at hj
    unfold flatP at hj
    rw [flat_get pc_len _ _ (by rw [hlen]; exact hi) _ h4, List.getElem_map, List.getElem_range] at hj
    obtain ⟨c0, c1, c2, _⟩ := hc (j / 4) hi
    obtain ⟨f0, f3, _⟩ := hf (j / 4) hi
    rw [← f0] at c0 c1 c2
    rw [ej]
    generalize j % 4 = r at *
    rcases (show r = 0 ∨ r = 1 ∨ r = 2 ∨ r = 3 by omega) with rfl | rfl | rfl | rfl
    · exact c0.trans hj
    · exact c1.trans hj
    · exact c2.trans hj
    · exact f3.trans hj
  · obtain ⟨i, hi, rfl⟩ := List.mem_map.1 hz
    exact (hf i (List.mem_range.1 hi)).2.2
theorem flatP_oneC : ∀ v ∈ flatP zs, v.oneCell' = true := flatP_one zs
/-- They are appended to none. -/
theorem own_prx {l : List Prx} {d : Nat} (hl : l.length = n) (hn : n ≤ 1000000) (h : PrxIn w p n l) :
    ∃ q d' w' zs, (∀ ty, (Builtin.append_ #[22, 22] ty #[.slice (some ⟨w.heap.size, 0, none⟩) 0 0, .slice p n d]).run Tryz.prog (w.alloc (.cells #[] TP)) = .ok (.slice q n d') w') ∧ SRow w' w.heap.size q n d' zs ∧ zs.map (·.x) = l ∧ (∀ z ∈ zs, RTox w z) ∧ Below w.heap.size w w' := by
  obtain ⟨zs, hz, hr, ht⟩ := prx_zs hl h
  obtain ⟨i0, hi0, hz0, hz1, hz2⟩ := info_parts infoP
  obtain ⟨q, d', w', r1, r2, r3⟩ := own_row (c := d) Tryz.underlying22 hi0 hz0 hz1 hz2 rfl (by decide) hr (flatP_one _) (by unfold maxLen; omega) (by omega)
  refine ⟨q, d', w', zs, r1, ⟨r2, fun z hz => (ht z hz).on r3, fun z hz hm a b ha hb e => ?_⟩, hz, ht, r3⟩
  have h1 := tox_lt (ht z hz).rd hm a ha
  have h2 := (r2.lt b hb).1
  omega
/-- More of them are appended. -/
theorem SRow.more (h : SRow w base p n c zs) (hbase : base ≤ w.heap.size) {a : Addr} {m d : Nat} {ys : List RP} (hr : RdC w (some a) m 4 (flatP ys)) (ht : ∀ z ∈ ys, RTox w z) (hf : ∀ z ∈ ys, 0 < z.m → ∀ a b, z.q = some a → p = some b → a.block ≠ b.block) (hn : n + m ≤ 1000000) :
    ∃ q e w', (∀ ty, (Builtin.append_ #[22, 22] ty #[.slice p n c, .slice (some a) m d]).run Tryz.prog w = .ok (.slice q (n + m) e) w') ∧ SRow w' base q (n + m) e (zs ++ ys) ∧ Below base w w' := by
  obtain ⟨i0, hi0, hz0, hz1, hz2⟩ := info_parts infoP
  obtain ⟨q, e, w', r1, r2, r3, r4⟩ := gc.app_row h.row hbase (a := a) (m := m) (d := d) (news := flatP ys) Tryz.underlying22 hi0 hz0 hz1 hz2 rfl (by decide) hr.1 hr.at (flatP_one _) (by unfold maxLen; omega) (by omega)
  have ht' : ∀ z ∈ zs ++ ys, RTox w z ∧ (0 < z.m → ∀ a b, z.q = some a → p = some b → a.block ≠ b.block) := fun z hz => by
    rcases List.mem_append.1 hz with hz | hz
    · exact ⟨h.tox z hz, h.far z hz⟩
    · exact ⟨ht z hz, hf z hz⟩
  have hfar : ∀ z ∈ zs ++ ys, 0 < z.m → ∀ x, z.q = some x → some x.block ≠ p.map (·.block) := fun z hz hm x hx e => by
    cases p with
    | none => cases e
    | some a0 =>
      injection e with e
      exact (ht' z hz).2 hm x a0 hx rfl e
  refine ⟨q, e, w', r1, ⟨?_, fun z hz => ⟨(ht' z hz).1.cap, (ht' z hz).1.len, tox_keep (ht' z hz).1.rd fun hm x hx => r3.block _ (tox_lt (ht' z hz).1.rd hm x hx) (hfar z hz hm x hx)⟩, fun z hz hm x y hx hy e => ?_⟩, ⟨r3.os, r3.tape, r3.output, r3.size, fun i hi => r3.block i (Nat.lt_of_lt_of_le hi hbase) fun e' => ?_⟩⟩
  · unfold flatP at r2 ⊢
    rw [List.flatMap_append]
    exact r2
  · rcases r4 y hy with g | g
    · exact hfar z hz hm x hx (by rw [e]; exact g.symm)
    · have := tox_lt (ht' z hz).1.rd hm x hx
      omega
  · cases p with
    | none => cases e'
    | some a0 =>
      have e' : some i = some a0.block := e'
      injection e' with e'
      have := (h.row.lt a0 rfl).1
      omega
/-- The row is written to. -/
theorem SRow.put (h : SRow w base (some ⟨b, o, none⟩) n c zs) {zs' : List RP} (hrow : gc.ORow w' base TP 4 (some ⟨b, o, none⟩) n c (flatP zs')) (hoth : ∀ i, i < w.heap.size → i ≠ b → w'.heap[i]? = w.heap[i]?) (hz : ∀ z ∈ zs', z ∈ zs ∨ (RTox w z ∧ (0 < z.m → ∀ a, z.q = some a → a.block ≠ b))) : SRow w' base (some ⟨b, o, none⟩) n c zs' := by
  have hz' : ∀ z ∈ zs', RTox w z ∧ (0 < z.m → ∀ a, z.q = some a → a.block ≠ b) := fun z hm => by
    rcases hz z hm with g | g
    · exact ⟨h.tox z g, fun h0 a ha => h.far z g h0 a _ ha rfl⟩
    · exact g
  exact ⟨hrow, fun z hm => ⟨(hz' z hm).1.cap, (hz' z hm).1.len, tox_keep (hz' z hm).1.rd fun h0 a ha => hoth _ (tox_lt (hz' z hm).1.rd h0 a ha) ((hz' z hm).2 h0 a ha)⟩, fun z hm h0 a x ha hx => by
    cases hx
    exact (hz' z hm).2 h0 a ha⟩
theorem SRow.set1 (h : SRow w base (some ⟨b, o, none⟩) n c zs) {i j : Nat} (hi : i < n) (hj : j < 4) (z : RP) (v : Value) (hv : z.cells = (zs.getD i noRP).cells.set j v) (hz : RTox w z) (hf : 0 < z.m → ∀ a, z.q = some a → a.block ≠ b) : SRow (w.setCell ⟨b, o + (i * 4 + j), none⟩ v) base (some ⟨b, o, none⟩) n c (zs.set i z) := by
  have hl := h.len
  rw [getD_at zs noRP (by omega)] at hv
  refine h.put ?_ (fun k _ hk => Below.heap_setCell _ _ _ _ hk) fun y hy => ?_
  · unfold flatP
    rw [flat_set1 pc_len zs i (by omega) j hj z v hv]
    exact orow_one h.row v
  · rcases List.mem_or_eq_of_mem_set hy with hy | rfl
    · exact Or.inl hy
    · exact Or.inr ⟨hz, hf⟩
theorem SRow.set (h : SRow w base (some ⟨b, o, none⟩) n c zs) {i : Nat} (hi : i < n) (z : RP) (hz : RTox w z) (hf : 0 < z.m → ∀ a, z.q = some a → a.block ≠ b) : SRow (w.setCells b (o + i * 4) z.cells) base (some ⟨b, o, none⟩) n c (zs.set i z) := by
  have hl := h.len
  have hg := gc.setCells_grown w b (o + i * 4) z.cells
  refine h.put ?_ (fun k hk hne => hg.block _ hk fun e => hne (by injection e)) fun y hy => ?_
  · unfold flatP
    rw [flat_set pc_len zs i (by omega) z]
    exact orow_run h.row (by rw [pc_len]; omega)
  · rcases List.mem_or_eq_of_mem_set hy with hy | rfl
    · exact Or.inl hy
    · exact Or.inr ⟨hz, hf⟩
end
/-- What the document's call answers. -/
def OutR (l' : List Prx) (er : Int) (w : World) (e : Ending) (w' : World) : Prop := ∃ q n c, e = .returned (.tuple #[.slice q n c, .int .i64 er]) ∧ l'.length = n ∧ n ≤ c ∧ PrxIn w' q n l' ∧ Below w.heap.size w w'
theorem out_r {l : List Prx} {er : Int} {w w' : World} {q : Option Addr} {n c : Nat} (hl : l.length = n) (hc : n ≤ c) (h : PrxIn w' q n l) (hb : Below w.heap.size w w') : OutR l er w (.returned (.tuple #[.slice q n c, .int .i64 er])) w' := ⟨q, n, c, rfl, hl, hc, h, hb⟩
namespace Nm
theorem put_none {l : List Prx} {p : Prx} (h : ∀ x ∈ l, ltB p.s x.s = false) : putL l p = l ++ [p] := by
  induction l with
  | nil => rfl
  | cons a r ih =>
    unfold putL
    rw [if_neg (by rw [h a (List.mem_cons_self ..)]; decide), ih fun x hx => h x (List.mem_cons_of_mem _ hx)]
    rfl
theorem put_first {l : List Prx} {p y : Prx} (h : ∀ x ∈ l, ltB p.s x.s = false) (hy : ltB p.s y.s = true) : putL (l ++ [y]) p = l ++ [p] ++ [y] := by
  induction l with
  | nil =>
    show putL [y] p = _
    unfold putL
    rw [if_pos hy]
    rfl
  | cons a r ih =>
    show putL (a :: (r ++ [y])) p = _
    unfold putL
    rw [if_neg (by rw [h a (List.mem_cons_self ..)]; decide), ih fun x hx => h x (List.mem_cons_of_mem _ hx)]
    rfl
theorem put_behind {l : List Prx} {p y : Prx} (h : ∃ x ∈ l, ltB p.s x.s = true) : putL (l ++ [y]) p = putL l p ++ [y] := by
  induction l with
  | nil =>
    obtain ⟨x, hx, _⟩ := h
    exact (List.not_mem_nil hx).elim
  | cons a r ih =>
    show putL (a :: (r ++ [y])) p = _
    unfold putL
    by_cases ha : ltB p.s a.s = true
    · rw [if_pos ha, if_pos ha]
      rfl
    · rw [if_neg ha, if_neg ha, ih]
      · rfl
      · obtain ⟨x, hx, hh⟩ := h
        rcases List.mem_cons.1 hx with rfl | hx
        · exact absurd hh ha
        · exact ⟨x, hx, hh⟩
/-- How far put has come: what it has, and whether the new one is in it. -/
structure PutS (l : List Prx) (p : Prx) (k : Nat) (out : List Prx) (done : Bool) : Prop where
  no : done = false → out = l.take k ∧ ∀ x ∈ l.take k, ltB p.s x.s = false
  yes : done = true → out = putL (l.take k) p ∧ ∃ x ∈ l.take k, ltB p.s x.s = true
theorem PutS.zero (l : List Prx) (p : Prx) : PutS l p 0 [] false := ⟨fun _ => ⟨by simp, fun x hx => by simp at hx⟩, fun h => by cases h⟩
section
variable {l out : List Prx} {p : Prx} {k : Nat}
theorem PutS.late (h : PutS l p k out true) (hk : k < l.length) : PutS l p (k + 1) (out ++ [l[k]]) true := by
  obtain ⟨e, hx⟩ := h.yes rfl
  have ht : l.take (k + 1) = l.take k ++ [l[k]] := List.take_succ_eq_append_getElem hk
  refine ⟨fun h => (by cases h), fun _ => ?_⟩
  rw [ht, put_behind hx, e]
  obtain ⟨x, hx, hh⟩ := hx
  exact ⟨rfl, x, List.mem_append_left _ hx, hh⟩
theorem PutS.next (h : PutS l p k out false) (hk : k < l.length) (hl : ltB p.s l[k].s = false) : PutS l p (k + 1) (out ++ [l[k]]) false := by
  obtain ⟨e, hx⟩ := h.no rfl
  have ht : l.take (k + 1) = l.take k ++ [l[k]] := List.take_succ_eq_append_getElem hk
  refine ⟨fun _ => ?_, fun h => (by cases h)⟩
  rw [ht, e]
  refine ⟨rfl, fun x hx' => ?_⟩
  rcases List.mem_append.1 hx' with g | g
  · exact hx x g
  · rw [List.mem_singleton.1 g]
    exact hl
theorem PutS.now (h : PutS l p k out false) (hk : k < l.length) (hl : ltB p.s l[k].s = true) : PutS l p (k + 1) (out ++ [p] ++ [l[k]]) true := by
  obtain ⟨e, hx⟩ := h.no rfl
  have ht : l.take (k + 1) = l.take k ++ [l[k]] := List.take_succ_eq_append_getElem hk
  refine ⟨fun h => (by cases h), fun _ => ?_⟩
  rw [ht, put_first hx hl, e]
  exact ⟨rfl, l[k], List.mem_append_right _ (List.mem_singleton.2 rfl), hl⟩
theorem PutS.endYes (h : PutS l p k out true) (hk : k = l.length) : out = putL l p := by
  obtain ⟨e, _⟩ := h.yes rfl
  rw [e, hk, List.take_length]
theorem PutS.endNo (h : PutS l p k out false) (hk : k = l.length) : out ++ [p] = putL l p := by
  obtain ⟨e, hx⟩ := h.no rfl
  rw [hk, List.take_length] at e hx
  rw [e, put_none hx]
end
section
variable {l : List Tox} {o : NOp}
theorem tox_bad (h4 : o.kind ≠ 4) (hc : o.t.chk ≠ 0) : toxL l o = (l, o.t.chk) := by
  unfold toxL
  rw [if_pos ⟨h4, hc⟩]
theorem tox_three (h3 : o.kind = 3) (hc : o.t.chk = 0) : toxL l o = if fT l o.t.s < l.length then (l, 141) else if 8 ≤ l.length then (l, 143) else (l ++ [o.t], 0) := by
  have hN : toxN o = o.t.s := if_neg (by omega)
  unfold toxL
  rw [hN, if_neg (fun h => h.2 hc), if_pos h3]
theorem tox_four (h4 : o.kind = 4) : toxL l o = if fT l o.x < l.length then (l.take (fT l o.x) ++ l.drop (fT l o.x + 1), 0) else (l, 142) := by
  have hN : toxN o = o.x := if_pos h4
  unfold toxL
  rw [hN, if_neg (fun h => h.1 h4), if_neg (by omega), if_pos h4]
  by_cases h : fT l o.x < l.length
  · rw [if_pos h, if_neg (fun g => g h)]
  · rw [if_neg h, if_pos h]
theorem tox_five (h3 : o.kind ≠ 3) (h4 : o.kind ≠ 4) (hc : o.t.chk = 0) : toxL l o = if fT l o.t.s < l.length then (if (l.getD (fT l o.t.s) noTox).k ≠ o.t.k ∨ (l.getD (fT l o.t.s) noTox).up ≠ o.t.up then (l, 91) else (l.set (fT l o.t.s) o.t, 0)) else (l, 142) := by
  have hN : toxN o = o.t.s := if_neg h4
  unfold toxL
  rw [hN, if_neg (fun h => h.2 hc), if_neg h3, if_neg h4]
  by_cases h : fT l o.t.s < l.length
  · rw [if_pos h, if_neg (fun g => g h)]
  · rw [if_neg h, if_pos h]
end
end Nm
/-- What is handed back of toxics: what came in, or a row of the call's own. -/
def OutTx (q0 : Option Addr) (m0 : Nat) (l' : List Tox) (er : Int) (w : World) (e : Ending) (w' : World) : Prop := ∃ q m d, e = .returned (.tuple #[.slice q m d, .int .i64 er]) ∧ l'.length = m ∧ m ≤ d ∧ ToxIn w' q m l' ∧ ((q = q0 ∧ m = m0) ∨ ∀ a, q = some a → ∃ cur, w'.heap[a.block]? = some (.cells cur TT (0, 0))) ∧ Below w.heap.size w w'
theorem out_tx {l : List Tox} {er : Int} {w w' : World} {q : Option Addr} {m d : Nat} (hl : l.length = m) (hmd : m ≤ d) (hi : ToxIn w' q m l) (hb : Below w.heap.size w w') : OutTx q m l er w (.returned (.tuple #[.slice q m d, .int .i64 er])) w' := ⟨q, m, d, rfl, hl, hmd, hi, Or.inl ⟨rfl, rfl⟩, hb⟩
theorem out_tr {l : List Tox} {er : Int} {w w' : World} {q0 q : Option Addr} {m0 m d base : Nat} (h : TRow w' base q m d l) (hb : Below w.heap.size w w') : OutTx q0 m0 l er w (.returned (.tuple #[.slice q m d, .int .i64 er])) w' := ⟨q, m, d, rfl, h.len, gc.ORow.cap h, h.tox, Or.inr fun a e => gc.ORow.typed h a e, hb⟩
theorem rd_one {w : World} {g : Nat} {z : RP} (h : w.heap[g]? = some (.cells #[.string z.x.s, .bool z.x.on, .int .i64 z.x.most, .slice z.q z.m z.d] TP (0, 0))) : RdC w (some ⟨g, 0, none⟩) 1 4 (flatP [z]) := ⟨rfl, fun _ => ⟨g, 0, rfl, fun j u hj => by
  simp only [World.cell?, h]
  rw [Nat.zero_add]
  simpa [flatP, RP.cells] using hj⟩⟩
/-- One more, made for it. -/
theorem SRow.one {w : World} {base n c : Nat} {p : Option Addr} {zs : List RP} (h : SRow w base p n c zs) (hbase : base ≤ w.heap.size) (z : RP) (hz : RTox w z) (hf : 0 < z.m → ∀ a, z.q = some a → a.block < base) (hn : n ≤ 1000) :
    ∃ q e w', (∀ ty, (Builtin.append_ #[22, 22] ty #[.slice p n c, .slice (some ⟨w.heap.size, 0, none⟩) 1 1]).run Tryz.prog (w.alloc (.cells #[.string z.x.s, .bool z.x.on, .int .i64 z.x.most, .slice z.q z.m z.d] TP)) = .ok (.slice q (n + 1) e) w') ∧ SRow w' base q (n + 1) e (zs ++ [z]) ∧ Below base w w' := by
  have hal : Below w.heap.size w (w.alloc (.cells #[.string z.x.s, .bool z.x.on, .int .i64 z.x.most, .slice z.q z.m z.d] TP)) := (Below.refl _ _).alloc (Nat.le_refl _) _
  obtain ⟨q, e, w', r1, r2, r3⟩ := (h.on hal).more (Nat.le_trans hbase hal.size) (d := 1) (rd_one (heap_alloc_new _ _)) (fun y hy => by
    rw [List.mem_singleton.1 hy]
    exact hz.on hal) (fun y hy hm a b ha hb => by
    rw [List.mem_singleton.1 hy] at hm ha
    have h1 := hf hm a ha
    have h2 := (h.row.lt b hb).1
    omega) (by omega)
  exact ⟨q, e, w', r1, r2, (hal.mono hbase).trans r3⟩
/-- What put hands back. -/
def OutPt (n : Nat) (l' : List Prx) (w : World) (e : Ending) (w' : World) : Prop := ∃ q c, e = .returned (.slice q n c) ∧ n ≤ c ∧ PrxIn w' q n l' ∧ Below w.heap.size w w'
set_option maxRecDepth 100000 in
set_option maxHeartbeats 8000000 in
theorem put_any (p : Option Addr) (n d : Nat) (l : List Prx) (s : ByteArray) (on : Bool) (mo : Int) (w : World) (hl : l.length = n) (hn : n ≤ 900) (hi : PrxIn w p n l) :
    Calls Tryz.prog 64 #[.slice p n d, .agg #[.string s, .bool on, .int .i64 mo, .slice none 0 0]] w (OutPt (n + 1) (Nm.putL l ⟨s, on, mo, []⟩) w) := by
  obtain ⟨w1, hw1⟩ : ∃ w1, w.alloc (.cells #[.string s, .bool on, .int .i64 mo, .slice none 0 0] TP) = w1 := ⟨_, rfl⟩
  have b1 : Below w.heap.size w w1 := by rw [← hw1]; exact (Below.refl _ _).alloc (Nat.le_refl _) _
  have h1 : w1.heap[w.heap.size]? = some (.cells #[.string s, .bool on, .int .i64 mo, .slice none 0 0] TP (0, 0)) := by rw [← hw1]; exact heap_alloc_new _ _
  have HXC := Lib.hid (show ∀ W, Below w1.heap.size w1 W → W.cell? ⟨w.heap.size, 0, none⟩ = some (.string s) ∧ W.cell? ⟨w.heap.size, 1, none⟩ = some (.bool on) ∧ W.cell? ⟨w.heap.size, 2, none⟩ = some (.int .i64 mo) ∧ W.cell? ⟨w.heap.size, 3, none⟩ = some (.slice none 0 0) from fun W hW => by
    have h := (hW.block _ (gc.blk_lt h1)).trans h1
    exact ⟨cell_of_row _ _ 0 _ _ _ h, cell_of_row _ _ 1 _ _ _ h, cell_of_row _ _ 2 _ _ _ h, cell_of_row _ _ 3 _ _ _ h⟩)
  have HI := Lib.hid (prxs_on hi b1)
  have HL := Lib.hid hl
  have HW := Lib.hid hw1
  have HB1 := Lib.hid b1
  clear hi hl hw1 b1 h1
  go_enter Tryz.func64, Tryz.ntmps64
  go_wp2_with fail
  rw [HW.out]
  go_loopw [5, 6, 7] (fun x y i wr => ∃ k : Nat, k ≤ n ∧ i = .int .i64 k ∧ ∃ q m c bd, x = .slice q m c ∧ y = .bool bd ∧ m ≤ k + 1 ∧ Hid (∃ zs, SRow wr w1.heap.size q m c zs ∧ Nm.PutS l ⟨s, on, mo, []⟩ k (zs.map (·.x)) bd) ∧ Hid (Below w1.heap.size w1 wr)) (fun _ _ i _ => n - (intOf i).toNat)
  case atStart => exact ⟨0, by omega, rfl, none, 0, 0, false, rfl, rfl, by omega, Lib.hid ⟨[], srow_nil _ _, Nm.PutS.zero _ _⟩, Lib.hid (Below.refl _ _)⟩
  case round =>
    obtain ⟨k, hk, rfl, q, m, c, bd, rfl, rfl, hm, HO, HB⟩ := hrel
    by_cases hlt : k < n
    · have hkl : k < l.length := by rw [HL.out]; exact hlt
      have hg : l.getD k noPrx = l[k] := getD_at _ _ hkl
      obtain ⟨b, o, rfl, hcell⟩ := HI.out (by omega)
      obtain ⟨c0, c1, c2, qt, mt, dt, c3, hmd, hlt2, htx⟩ := hcell k hlt
      rw [← Nat.add_assoc] at c1 c2 c3
      have HLT := Lib.hid (fun out (h : Nm.PutS l ⟨s, on, mo, []⟩ k out true) => (by rw [hg]; exact h.late hkl : Nm.PutS l ⟨s, on, mo, []⟩ (k + 1) (out ++ [l.getD k noPrx]) true))
      have HNX := Lib.hid (fun out (h : Nm.PutS l ⟨s, on, mo, []⟩ k out false) (hh : Nm.ltB s (l.getD k noPrx).s = false) => (by rw [hg] at hh ⊢; exact h.next hkl hh : Nm.PutS l ⟨s, on, mo, []⟩ (k + 1) (out ++ [l.getD k noPrx]) false))
      have HNW := Lib.hid (fun out (h : Nm.PutS l ⟨s, on, mo, []⟩ k out false) (hh : Nm.ltB s (l.getD k noPrx).s = true) => (by rw [hg] at hh ⊢; exact h.now hkl hh : Nm.PutS l ⟨s, on, mo, []⟩ (k + 1) (out ++ [⟨s, on, mo, []⟩] ++ [l.getD k noPrx]) true))
      generalize l.getD k noPrx = x at *
      obtain ⟨xs, xon, xm, xt⟩ := x
      simp only at c0 c1 c2 hlt2 htx HNX HNW
      have HE := Lib.hid (show ∀ W, Below w1.heap.size w1 W → W.cell? ⟨b, o + k * 4, none⟩ = some (.string xs) ∧ W.cell? ⟨b, o + k * 4 + 1, none⟩ = some (.bool xon) ∧ W.cell? ⟨b, o + k * 4 + 2, none⟩ = some (.int .i64 xm) ∧ W.cell? ⟨b, o + k * 4 + 3, none⟩ = some (.slice qt mt dt) from fun W hW =>
        ⟨(hW.cell (World.block_lt_of_cell? w1 _ c0)).trans c0, (hW.cell (World.block_lt_of_cell? w1 _ c1)).trans c1, (hW.cell (World.block_lt_of_cell? w1 _ c2)).trans c2, (hW.cell (World.block_lt_of_cell? w1 _ c3)).trans c3⟩)
      have HZ := Lib.hid (show RTox w1 ⟨⟨xs, xon, xm, xt⟩, qt, mt, dt⟩ from ⟨hmd, hlt2, htx⟩)
      clear c0 c1 c2 c3 hcell hg hlt2 htx hmd hkl
      obtain ⟨e0, e1, e2, e3⟩ := HE.out _ HB.out
      obtain ⟨x0, x1, x2, x3⟩ := HXC.out _ HB.out
      cases bd with
      | true =>
        go_wp2_with fail
        go_quiet (fail)
        have hbd := nbelow_drewN wr nq
        obtain ⟨wd, hwd⟩ : ∃ wd, wr.drewN nq = wd := ⟨_, rfl⟩
        rw [hwd] at hbd ⊢
        have HD := Lib.hid (HB.out.trans (hbd.mono HB.out.size))
        obtain ⟨zs, ho, hp⟩ := HO.out
        obtain ⟨q2, c2, w2, r1, r2, r3⟩ := (ho.on hbd).one HD.out.size ⟨⟨xs, xon, xm, xt⟩, qt, mt, dt⟩ (HZ.out.on HD.out) (fun h a ha => tox_lt HZ.out.rd h a ha) (by omega)
        have HR := Lib.hid r1
        have HO2 := Lib.hid (show ∃ zs, SRow w2 w1.heap.size q2 (m + 1) c2 zs ∧ Nm.PutS l ⟨s, on, mo, []⟩ (k + 1) (zs.map (·.x)) true from ⟨_, r2, by rw [List.map_append]; exact HLT.out _ hp⟩)
        have HB2 := Lib.hid (HD.out.trans r3)
        clear e0 e1 e2 e3 x0 x1 x2 x3 ho hp r1 r2 r3 hbd hwd
        obtain ⟨e0, e1, e2, e3⟩ := HE.out _ HD.out
        clear HLT HNX HNW HO HB HZ
        go_wp2_with (at_builtin; refine Lib.wpList_append_run _ rfl _ _ _ _ rfl (.slice q m c) (.slice (some ⟨wd.heap.size, 0, none⟩) 1 1) rfl rfl _ _ (HR.out _) ?_)
        go_roundw
        case rel => exact ⟨k + 1, by omega, by go_num, q2, m + 1, c2, true, rfl, rfl, by omega, HO2, HB2⟩
        case measure => simp [intOf]; omega
      | false =>
        cases hlb : Nm.ltB s xs with
        | false =>
          have hd : Op.bytesLess s.toList xs.toList = false := hlb
          go_wp2_with fail
          go_quiet (fail)
          have hbd := nbelow_drewN wr nq
          obtain ⟨wd, hwd⟩ : ∃ wd, wr.drewN nq = wd := ⟨_, rfl⟩
          rw [hwd] at hbd ⊢
          have HD := Lib.hid (HB.out.trans (hbd.mono HB.out.size))
          obtain ⟨zs, ho, hp⟩ := HO.out
          obtain ⟨q2, c2, w2, r1, r2, r3⟩ := (ho.on hbd).one HD.out.size ⟨⟨xs, xon, xm, xt⟩, qt, mt, dt⟩ (HZ.out.on HD.out) (fun h a ha => tox_lt HZ.out.rd h a ha) (by omega)
          have HR := Lib.hid r1
          have HO2 := Lib.hid (show ∃ zs, SRow w2 w1.heap.size q2 (m + 1) c2 zs ∧ Nm.PutS l ⟨s, on, mo, []⟩ (k + 1) (zs.map (·.x)) false from ⟨_, r2, by rw [List.map_append]; exact HNX.out _ hp hlb⟩)
          have HB2 := Lib.hid (HD.out.trans r3)
          clear e0 e1 e2 e3 x0 x1 x2 x3 ho hp r1 r2 r3 hbd hwd
          obtain ⟨e0, e1, e2, e3⟩ := HE.out _ HD.out
          clear HLT HNX HNW HO HB HZ hlb hd
          go_wp2_with (at_builtin; refine Lib.wpList_append_run _ rfl _ _ _ _ rfl (.slice q m c) (.slice (some ⟨wd.heap.size, 0, none⟩) 1 1) rfl rfl _ _ (HR.out _) ?_)
          go_roundw
          case rel => exact ⟨k + 1, by omega, by go_num, q2, m + 1, c2, false, rfl, rfl, by omega, HO2, HB2⟩
          case measure => simp [intOf]; omega
        | true =>
          have hd : Op.bytesLess s.toList xs.toList = true := hlb
          go_wp2_with fail
          go_quiet (fail)
          have hbd := nbelow_drewN wr nq
          obtain ⟨wd, hwd⟩ : ∃ wd, wr.drewN nq = wd := ⟨_, rfl⟩
          rw [hwd] at hbd ⊢
          have HD := Lib.hid (HB.out.trans (hbd.mono HB.out.size))
          obtain ⟨zs, ho, hp⟩ := HO.out
          obtain ⟨q1, c1, w3, r1, r2, r3⟩ := (ho.on hbd).one HD.out.size ⟨⟨s, on, mo, []⟩, none, 0, 0⟩ ⟨Nat.le_refl _, rfl, fun h => absurd h (Nat.lt_irrefl _)⟩ (fun h => absurd h (Nat.lt_irrefl _)) (by omega)
          have HD3 := Lib.hid (HD.out.trans r3)
          obtain ⟨q2, c2, w2, s1, s2, s3⟩ := r2.one HD3.out.size ⟨⟨xs, xon, xm, xt⟩, qt, mt, dt⟩ (HZ.out.on HD3.out) (fun h a ha => tox_lt HZ.out.rd h a ha) (by omega)
          have HR := Lib.hid r1
          have HR2 := Lib.hid s1
          have HO2 := Lib.hid (show ∃ zs, SRow w2 w1.heap.size q2 (m + 1 + 1) c2 zs ∧ Nm.PutS l ⟨s, on, mo, []⟩ (k + 1) (zs.map (·.x)) true from ⟨_, s2, by rw [List.map_append, List.map_append]; exact HNW.out _ hp hlb⟩)
          have HB2 := Lib.hid (HD3.out.trans s3)
          have hmk : m ≤ k := by
            have h := (hp.no rfl).1
            have h2 := congrArg List.length h
            rw [List.length_map, ho.len, List.length_take] at h2
            omega
          clear e0 e1 e2 e3 x0 x1 x2 x3 ho hp r1 r2 r3 s1 s2 s3 hbd hwd
          obtain ⟨x0, x1, x2, x3⟩ := HXC.out _ HD.out
          obtain ⟨e0, e1, e2, e3⟩ := HE.out _ HD3.out
          clear HLT HNX HNW HO HB HZ hlb hd
          go_wp2_with (at_builtin; first | refine Lib.wpList_append_run _ rfl _ _ _ _ rfl (.slice q m c) (.slice (some ⟨wd.heap.size, 0, none⟩) 1 1) rfl rfl _ _ (HR.out _) ?_ | refine Lib.wpList_append_run _ rfl _ _ _ _ rfl (.slice q1 (m + 1) c1) (.slice (some ⟨w3.heap.size, 0, none⟩) 1 1) rfl rfl _ _ (HR2.out _) ?_)
          go_roundw
          case rel => exact ⟨k + 1, by omega, by go_num, q2, m + 1 + 1, c2, true, rfl, rfl, by omega, HO2, HB2⟩
          case measure => simp [intOf]; omega
    · obtain rfl : k = n := by omega
      obtain ⟨zs, ho, hp⟩ := HO.out
      cases bd with
      | true =>
        have he := hp.endYes HL.out.symm
        obtain rfl : m = k + 1 := by
          have h2 := congrArg List.length he
          rw [List.length_map, ho.len, Nm.put_length, HL.out] at h2
          exact h2
        have HP := Lib.hid (show PrxIn wr q (k + 1) (Nm.putL l ⟨s, on, mo, []⟩) from by rw [← he]; exact ho.prx)
        have HZZ := Lib.hid (seqB HB1.out HB.out)
        have HCP := Lib.hid ho.row.cap
        clear ho hp he HO
        go_wp2_with fail
        go_ret
        exact ⟨q, c, rfl, HCP.out, HP.out, HZZ.out⟩
      | false =>
        have he := hp.endNo HL.out.symm
        obtain ⟨q2, c2, w2, r1, r2, r3⟩ := ho.one HB.out.size ⟨⟨s, on, mo, []⟩, none, 0, 0⟩ ⟨Nat.le_refl _, rfl, fun h => absurd h (Nat.lt_irrefl _)⟩ (fun h => absurd h (Nat.lt_irrefl _)) (by omega)
        obtain rfl : m = k := by
          have h2 := congrArg List.length he
          rw [List.length_append, List.length_map, ho.len, Nm.put_length, HL.out] at h2
          exact Nat.add_right_cancel h2
        have HR := Lib.hid r1
        have HP := Lib.hid (show PrxIn w2 q2 (m + 1) (Nm.putL l ⟨s, on, mo, []⟩) from by
          rw [← he]
          have h := r2.prx
          rwa [List.map_append] at h)
        have HZZ := Lib.hid (seqB HB1.out (HB.out.trans r3))
        have HCP := Lib.hid r2.row.cap
        obtain ⟨x0, x1, x2, x3⟩ := HXC.out _ HB.out
        clear ho hp he r1 r2 r3 HO
        go_wp2_with (at_builtin; refine Lib.wpList_append_run _ rfl _ _ _ _ rfl (.slice q m c) (.slice (some ⟨wr.heap.size, 0, none⟩) 1 1) rfl rfl _ _ (HR.out _) ?_)
        go_ret
        exact ⟨q2, c2, rfl, HCP.out, HP.out, HZZ.out⟩
theorem RdC.cut {w : World} {b o n K k : Nat} {vs : List Value} (h : RdC w (some ⟨b, o, none⟩) n K vs) (hk : k ≤ n) : RdC w (some ⟨b, o, none⟩) k K (vs.take (k * K)) := ⟨by rw [List.length_take, h.1]; exact Nat.min_eq_left (Nat.mul_le_mul_right K hk), fun _ => ⟨b, o, rfl, fun j u hj => by
  rw [List.getElem?_take] at hj
  split at hj
  · have := h.at j u hj
    rwa [WideShapes.add_plain] at this
  · cases hj⟩⟩
theorem RdC.rest {w : World} {b o n K k : Nat} {vs : List Value} (h : RdC w (some ⟨b, o, none⟩) n K vs) (p2 : Addr) (hp : n - k = 0 ∨ p2 = ⟨b, o + k * K, none⟩) : RdC w (some p2) (n - k) K (vs.drop (k * K)) := ⟨by rw [List.length_drop, h.1, Nat.sub_mul], fun hm => by
  rcases hp with hp | rfl
  · omega
  · exact ⟨b, _, rfl, fun j u hj => by
      rw [List.getElem?_drop] at hj
      have := h.at _ u hj
      rwa [WideShapes.add_plain, ← Nat.add_assoc] at this⟩⟩
theorem row_cut {w : World} {b o n K T k d : Nat} {vs : List Value} {t : TypeId} {i0 : TypeInfo} {z : Value} {by0 : Nat} (ht : Tryz.prog.underlying t = some (.slice T)) (hi : Tryz.prog.info? T = some i0) (hz : i0.zero = some z)
    (h1 : i0.size = K) (h2 : i0.bytes = by0) (h3 : z.cells.size = K) (hK : 0 < K) (hr : RdC w (some ⟨b, o, none⟩) n K vs) (hk : k < n) (hone : ∀ u ∈ vs, u.oneCell' = true) (hn : n ≤ 1000) (hby : by0 ≤ 100) :
    ∃ q1 d1 w1, (∀ ty, (Builtin.append_ #[t, t] ty #[.slice (some ⟨w.heap.size, 0, none⟩) 0 0, .slice (some ⟨b, o, none⟩) k d]).run Tryz.prog (w.drew.alloc (.cells #[] T)) = .ok (.slice q1 k d1) w1) ∧
      ∀ (p2 : Addr) (c2 : Nat), (n - (k + 1) = 0 ∨ p2 = ⟨b, o + (k + 1) * K, none⟩) → ∃ q2 d2 w2, (∀ ty, (Builtin.append_ #[t, t] ty #[.slice q1 k d1, .slice (some p2) (n - (k + 1)) c2]).run Tryz.prog w1 = .ok (.slice q2 (k + (n - (k + 1))) d2) w2) ∧ gc.ORow w2 w.heap.size T K q2 (k + (n - (k + 1))) d2 (vs.take (k * K) ++ vs.drop ((k + 1) * K)) ∧ Below w.heap.size w w2 := by
  have hbd : Below w.heap.size w w.drew := (Below.refl _ _).drew
  have hb : ∀ x, x ≤ 1000 → x * by0 ≤ 140737488355328 := fun x hx => Nat.le_trans (Nat.mul_le_mul hx hby) (by decide)
  obtain ⟨q1, d1, w1, r1, r2, r3⟩ := own_row (w := w.drew) (c := d) ht hi hz h1 h2 h3 hK ((hr.on hbd).cut (k := k) (by omega)) (fun u hu => hone u (List.mem_of_mem_take hu)) (by unfold maxLen; omega) (hb k (by omega))
  have hb1 : Below w.heap.size w w1 := seqB hbd r3
  refine ⟨q1, d1, w1, r1, fun p2 c2 hp => ?_⟩
  have hr2 := (hr.on hb1).rest p2 hp
  obtain ⟨q2, d2, w2, s1, s2, s3, _⟩ := gc.app_row (base := w.heap.size) r2 hb1.size (a := p2) (m := n - (k + 1)) (d := c2) (news := vs.drop ((k + 1) * K)) ht hi hz h1 h2 h3 hK hr2.1 hr2.at (fun u hu => hone u (List.mem_of_mem_drop hu)) (by unfold maxLen; omega) (hb _ (by omega))
  refine ⟨q2, d2, w2, s1, s2, hb1.trans ⟨s3.os, s3.tape, s3.output, s3.size, fun i hi => s3.block i (Nat.lt_of_lt_of_le hi hb1.size) fun e' => ?_⟩⟩
  cases q1 with
  | none => cases e'
  | some a0 =>
    have e' : some i = some a0.block := e'
    injection e' with e'
    have : w.heap.size ≤ a0.block := (gc.ORow.lt r2 a0 rfl).1
    omega
/-- A toxic's cells, made. -/
def toxO (t : Tox) : Obj := .cells #[.string t.s, .int .i64 t.k, .bool t.up, .int .i64 t.o, .int .i64 t.a, .int .i64 t.b] TT
theorem toxO_at {w : World} {g : Nat} {t : Tox} (h : w.heap[g]? = some (.cells #[.string t.s, .int .i64 t.k, .bool t.up, .int .i64 t.o, .int .i64 t.a, .int .i64 t.b] TT (0, 0))) : ∀ j u, t.cells[j]? = some u → w.cell? ((⟨g, 0, none⟩ : Addr).add j) = some u := fun j u hj => by
  rw [WideShapes.add_plain]
  simp only [World.cell?, h]
  rw [Nat.zero_add]
  simpa [Tox.cells] using hj
/-- A copy with one more: the empty row lies at g, the toxic's block at g2. -/
theorem copy_one {w W : World} {g g2 m d : Nat} {q : Option Addr} {l : List Tox} {t : Tox} (hb : Below w.heap.size w W) (hg : W.heap[g]? = some (.cells #[] TT (0, 0))) (hgb : w.heap.size ≤ g) (hl : l.length = m) (hm : m ≤ 1000) (hi : ToxIn w q m l) :
    ∃ q1 d1 w1, (∀ ty, (Builtin.append_ #[35, 35] ty #[.slice (some ⟨g, 0, none⟩) 0 0, .slice q m d]).run Tryz.prog W = .ok (.slice q1 m d1) w1) ∧ Below w.heap.size w w1 ∧
      (∃ q2 d2 w2, (∀ ty, (Builtin.append_ #[35, 35] ty #[.slice q1 m d1, .slice (some ⟨w1.heap.size, 0, none⟩) 1 1]).run Tryz.prog (w1.alloc (toxO t)) = .ok (.slice q2 (m + 1) d2) w2) ∧ TRow w2 w.heap.size q2 (m + 1) d2 (l ++ [t]) ∧ Below w.heap.size w w2) ∧
      (W.heap[g2]? = some (.cells #[.string t.s, .int .i64 t.k, .bool t.up, .int .i64 t.o, .int .i64 t.a, .int .i64 t.b] TT (0, 0)) → g2 ≠ g → ∃ q2 d2 w2, (∀ ty, (Builtin.append_ #[35, 35] ty #[.slice q1 m d1, .slice (some ⟨g2, 0, none⟩) 1 1]).run Tryz.prog w1 = .ok (.slice q2 (m + 1) d2) w2) ∧ TRow w2 w.heap.size q2 (m + 1) d2 (l ++ [t]) ∧ Below w.heap.size w w2) := by
  obtain ⟨i0, hi0, hz0, hz1, hz2⟩ := info_parts infoT
  obtain ⟨q1, d1, w1, r1, r2, r3, r4⟩ := own_at (c := d) hg hgb Tryz.underlying35 hi0 hz0 hz1 hz2 rfl (by decide) (tox_rd hl (toxs_on hi hb)) (flatT_one _) (by unfold maxLen; omega) (by omega)
  have hb1 : Below w.heap.size w w1 := hb.trans r4
  have r2 : TRow w1 w.heap.size q1 m d1 l := r2
  have low : ∀ {w2 w3 : World} , Below w.heap.size w w2 → w2.grownBy w3 (q1.map (·.block)) → Below w.heap.size w w3 := fun {w2 w3} h2 h3 => h2.trans ⟨h3.os, h3.tape, h3.output, h3.size, fun i hi => h3.block i (Nat.lt_of_lt_of_le hi h2.size) fun e' => by
    cases hq : q1 with
    | none => rw [hq] at e'; cases e'
    | some a0 =>
      rw [hq] at e'
      have e' : some i = some a0.block := e'
      injection e' with e'
      have : w.heap.size ≤ a0.block := (gc.ORow.lt r2 a0 hq).1
      omega⟩
  refine ⟨q1, d1, w1, r1, hb1, ?_, fun h2 hne => ?_⟩
  · have hal : Below w1.heap.size w1 (w1.alloc (toxO t)) := (Below.refl _ _).alloc (Nat.le_refl _) _
    obtain ⟨q2, d2, w2, s1, s2, s3, _⟩ := TRow.app (gc.ORow.on r2 hal) (Nat.le_trans hb1.size hal.size) hm (a := ⟨w1.heap.size, 0, none⟩) (e := 1) t (toxO_at (heap_alloc_new _ _))
    exact ⟨q2, d2, w2, s1, s2, low (seqB hb1 hal) s3⟩
  · have h3 := (r3.block g2 (gc.blk_lt h2) (fun e => hne (by injection e))).trans h2
    obtain ⟨q2, d2, w2, s1, s2, s3, _⟩ := TRow.app r2 hb1.size hm (a := ⟨g2, 0, none⟩) (e := 1) t (toxO_at h3)
    exact ⟨q2, d2, w2, s1, s2, low hb1 s3⟩
theorem flatT_cut (l : List Tox) (k : Nat) : (flatT l).take (k * 6) ++ (flatT l).drop ((k + 1) * 6) = flatT (l.take k ++ l.drop (k + 1)) := by
  unfold flatT
  rw [flat_take tc_len, flat_drop tc_len, List.flatMap_append]
/-- A toxic of the row is stored. -/
theorem TRow.setT {w : World} {base m d b o : Nat} {l : List Tox} (h : TRow w base (some ⟨b, o, none⟩) m d l) {k : Nat} (hk : k < m) (t : Tox) : TRow (w.setCells b (o + k * 6) t.cells) base (some ⟨b, o, none⟩) m d (l.set k t) := by
  have hl := h.len
  unfold TRow flatT
  rw [flat_set tc_len l k (by omega) t]
  exact orow_run h (by rw [tc_len]; omega)
set_option maxRecDepth 100000 in
set_option maxHeartbeats 16000000 in
theorem tox4_any (q : Option Addr) (m d : Nat) (l : List Tox) (O : NOp) (w : World) (h4 : O.kind = 4) (hl : l.length = m) (hmd : m ≤ d) (hm : m ≤ 900) (hi : ToxIn w q m l) :
    Calls Tryz.prog 32 #[.slice q m d, nopV O] w (OutTx q m (Nm.toxL l O).1 (Nm.toxL l O).2 w) := by
  obtain ⟨w1, hw1⟩ : ∃ w1, w.alloc (nopC O) = w1 := ⟨_, rfl⟩
  have hb1 : Below w.heap.size w w1 := by rw [← hw1]; exact (Below.refl _ _).alloc (Nat.le_refl _) _
  have h1 : w1.heap[w.heap.size]? = some (nopC O) := by rw [← hw1]; exact heap_alloc_new _ _
  obtain ⟨x0, x1, x2, x3, x4, x5, x6, x7, x8, x9, x10⟩ := nop_at h1
  have HI := Lib.hid (toxs_on hi hb1)
  have HB1 := Lib.hid hb1
  have HF := Lib.hid (rfind_any q m d l O.x w1 hl (by omega) (toxs_on hi hb1))
  have HL := Lib.hid hl
  rw [Nm.tox_four h4, hl]
  have k4 : (O.kind == 4) = true := by simpa using h4
  have k3 : (O.kind == 3) = false := by simpa using (show O.kind ≠ 3 by omega)
  unfold nopC at hw1
  unfold nopV
  have HW := Lib.hid hw1
  clear hw1 hb1 h1 hi hl h4
  by_cases hf : Nm.fT l O.x < m
  · have e1 : orNone (Nm.fT l O.x) m = (Nm.fT l O.x : Int) := if_pos hf
    rw [if_pos hf]
    rw [e1] at HF
    dsimp only
    generalize Nm.fT l O.x = K at *
    have d2 : decide ((K : Int) < 0) = false := decide_eq_false (by omega)
    obtain ⟨b, o, rfl, _⟩ := HI.out (by omega)
    obtain ⟨i0, hi0, hz0, hz1, hz2⟩ := info_parts infoT
    obtain ⟨q1, d1, w3, r1, r2⟩ := row_cut (w := w1) (k := K) (d := d) Tryz.underlying35 hi0 hz0 hz1 hz2 rfl (by decide) (tox_rd HL.out HI.out) hf (flatT_one _) (by omega) (by decide)
    have hkw : IntKind.i64.wrap ((K : Int) + 1) = (K : Int) + 1 := wrapN_id (by omega) (by omega)
    have HR1 := Lib.hid r1
    have hlen : (l.take K ++ l.drop (K + 1)).length = K + (m - (K + 1)) := by
      have := HL.out
      rw [List.length_append, List.length_take, List.length_drop]
      omega
    by_cases hkc : d = K + 1
    · obtain ⟨q2, d2', w2, s1, s2, s3⟩ := r2 ⟨b, o, none⟩ (d - (K + 1)) (Or.inl (by omega))
      rw [flatT_cut] at s2
      have HO := Lib.hid (out_tr (q0 := some ⟨b, o, none⟩) (m0 := m) (er := 0) s2 (seqB HB1.out s3))
      obtain rfl : m = K + 1 := by omega
      subst hkc
      rw [Nat.sub_self] at s1 HO
      have HR2 := Lib.hid s1
      clear r1 r2 s1 s2 s3 hi0 hz0 hz1 hz2 hlen e1 HB1
      go_enter Tryz.func32, Tryz.ntmps32
      go_wp2_with fail
      rw [HW.out]
      refine HF.out.mono ?_
      rintro e w9 ⟨rfl, rfl⟩
      go_wp2_with fail
      go_region_held_law (fun _ => True)
        (trivial)
        (first
          | (refine step_append_eq rfl (.tmp 51) (.tmp 54) 35 35 rfl (.slice (some ⟨w1.heap.size, 0, none⟩) 0 0) (.slice (some ⟨b, o, none⟩) K (K + 1)) rfl rfl HR1.out ?_)
          | (refine step_append_eq rfl (.tmp 55) (.tmp 59) 35 35 rfl (.slice q1 K d1) (.slice (some ⟨b, o, none⟩) 0 0) rfl rfl HR2.out ?_))
      all_goals
        simp only [List.getElem_toArray, List.getElem_cons_succ, List.getElem_cons_zero]
        go_wp2_with fail
        go_ret2
        exact HO.out
    · obtain ⟨q2, d2', w2, s1, s2, s3⟩ := r2 ⟨b, o + (K + 1) * 6, none⟩ (d - (K + 1)) (Or.inr rfl)
      rw [flatT_cut] at s2
      have HO := Lib.hid (out_tr (q0 := some ⟨b, o, none⟩) (m0 := m) (er := 0) s2 (seqB HB1.out s3))
      have HR2 := Lib.hid s1
      clear r1 r2 s1 s2 s3 hi0 hz0 hz1 hz2 hlen e1 HB1
      go_enter Tryz.func32, Tryz.ntmps32
      go_wp2_with fail
      rw [HW.out]
      refine HF.out.mono ?_
      rintro e w9 ⟨rfl, rfl⟩
      go_wp2_with fail
      go_region_held_law (fun _ => True)
        (trivial)
        (first
          | (refine step_append_eq rfl (.tmp 51) (.tmp 54) 35 35 rfl (.slice (some ⟨w1.heap.size, 0, none⟩) 0 0) (.slice (some ⟨b, o, none⟩) K d) rfl rfl HR1.out ?_)
          | (refine step_append_eq rfl (.tmp 55) (.tmp 59) 35 35 rfl (.slice q1 K d1) (.slice (some ⟨b, o + (K + 1) * 6, none⟩) (m - (K + 1)) (d - (K + 1))) rfl rfl HR2.out ?_))
      all_goals
        simp only [List.getElem_toArray, List.getElem_cons_succ, List.getElem_cons_zero]
        go_wp2_with fail
        go_ret2
        exact HO.out
  · have e1 : orNone (Nm.fT l O.x) m = -1 := if_neg hf
    rw [if_neg hf]
    rw [e1] at HF
    have HO := Lib.hid (out_tx (er := 142) HL.out hmd HI.out HB1.out)
    clear hf e1 HI HB1
    go_enter Tryz.func32, Tryz.ntmps32
    go_wp2_with fail
    rw [HW.out]
    refine HF.out.mono ?_
    rintro e w9 ⟨rfl, rfl⟩
    go_wp2_with fail
    go_ret2
    exact HO.out
set_option maxRecDepth 100000 in
set_option maxHeartbeats 16000000 in
theorem toxbad_any (q : Option Addr) (m d : Nat) (l : List Tox) (O : NOp) (w : World) (h35 : O.kind = 3 ∨ O.kind = 5) (hE : O.t.chk ≠ 0) (hs : O.t.s.size ≤ maxLen) (hl : l.length = m) (hmd : m ≤ d) (_ : m ≤ 900) (hi : ToxIn w q m l) :
    Calls Tryz.prog 32 #[.slice q m d, nopV O] w (OutTx q m (Nm.toxL l O).1 (Nm.toxL l O).2 w) := by
  obtain ⟨w1, hw1⟩ : ∃ w1, w.alloc (nopC O) = w1 := ⟨_, rfl⟩
  have hb1 : Below w.heap.size w w1 := by rw [← hw1]; exact (Below.refl _ _).alloc (Nat.le_refl _) _
  have h1 : w1.heap[w.heap.size]? = some (nopC O) := by rw [← hw1]; exact heap_alloc_new _ _
  obtain ⟨x0, x1, x2, x3, x4, x5, x6, x7, x8, x9, x10⟩ := nop_at h1
  have HOB := Lib.hid (fun W (hW : Below w1.heap.size w1 W) => nop_at ((hW.block _ (gc.blk_lt h1)).trans h1))
  have HI := Lib.hid (toxs_on hi hb1)
  have HB1 := Lib.hid hb1
  have HL := Lib.hid hl
  have HC := Lib.hid (fun W => gx.rcheck_any O.t.s hs O.t.k O.t.up O.t.o O.t.a O.t.b W)
  unfold gx.Chk at HC
  have hchk : O.t.chk = gx.checkB O.t.s O.t.k O.t.o O.t.a O.t.b := rfl
  have hn4 : O.kind ≠ 4 := by omega
  have k4 : (O.kind == 4) = false := by simpa using hn4
  unfold nopC at hw1
  unfold nopV
  have HW := Lib.hid hw1
  clear hw1 hb1 h1 hi hl
  rw [Nm.tox_bad hn4 hE]
  rw [hchk] at hE ⊢
  dsimp only
  generalize gx.checkB O.t.s O.t.k O.t.o O.t.a O.t.b = E at *
  have e1 : (E != 0) = true := by simpa using hE
  have e2 : decide (E = 0) = false := by simpa using hE
  clear hchk h35 hn4 hE
  go_enter Tryz.func32, Tryz.ntmps32
  go_wp2_with fail
  rw [HW.out]
  refine (HC.out _).mono ?_
  rintro e w2 ⟨rfl, hb⟩
  have HB2 := Lib.hid hb
  clear hb x0 x1 x2 x3 x4 x5 x6 x7 x8 x9 x10
  obtain ⟨x0, x1, x2, x3, x4, x5, x6, x7, x8, x9, x10⟩ := HOB.out _ HB2.out
  go_wp2_with fail
  refine (HC.out _).mono ?_
  rintro e w3 ⟨rfl, hb⟩
  have HO := Lib.hid (out_tx (er := E) HL.out hmd (toxs_on HI.out (seqB HB2.out hb)) (seqB HB1.out (seqB HB2.out hb)))
  clear hb
  go_wp2_with fail
  go_ret2
  exact HO.out
set_option maxRecDepth 100000 in
set_option maxHeartbeats 16000000 in
theorem tox3_any (q : Option Addr) (m d : Nat) (l : List Tox) (O : NOp) (w : World) (h3 : O.kind = 3) (hE : O.t.chk = 0) (hs : O.t.s.size ≤ maxLen) (hl : l.length = m) (hmd : m ≤ d) (hm : m ≤ 900) (hi : ToxIn w q m l) :
    Calls Tryz.prog 32 #[.slice q m d, nopV O] w (OutTx q m (Nm.toxL l O).1 (Nm.toxL l O).2 w) := by
  obtain ⟨w1, hw1⟩ : ∃ w1, w.alloc (nopC O) = w1 := ⟨_, rfl⟩
  have hb1 : Below w.heap.size w w1 := by rw [← hw1]; exact (Below.refl _ _).alloc (Nat.le_refl _) _
  have h1 : w1.heap[w.heap.size]? = some (nopC O) := by rw [← hw1]; exact heap_alloc_new _ _
  obtain ⟨x0, x1, x2, x3, x4, x5, x6, x7, x8, x9, x10⟩ := nop_at h1
  have HOB := Lib.hid (fun W (hW : Below w1.heap.size w1 W) => nop_at ((hW.block _ (gc.blk_lt h1)).trans h1))
  have HI := Lib.hid (toxs_on hi hb1)
  have HB1 := Lib.hid hb1
  have HL := Lib.hid hl
  have HC := Lib.hid (fun W => gx.rcheck_any O.t.s hs O.t.k O.t.up O.t.o O.t.a O.t.b W)
  unfold gx.Chk at HC
  rw [show gx.checkB O.t.s O.t.k O.t.o O.t.a O.t.b = 0 from hE] at HC
  have hn4 : O.kind ≠ 4 := by omega
  have k4 : (O.kind == 4) = false := by simpa using hn4
  have HFI := Lib.hid (fun W (hW : Below w1.heap.size w1 W) => rfind_any q m d l O.t.s W hl (by omega) (toxs_on (toxs_on hi hb1) hW))
  have k3 : (O.kind == 3) = true := by simpa using h3
  obtain ⟨X, hX⟩ : ∃ X, Nm.toxL l O = X := ⟨_, rfl⟩
  rw [hX]
  rw [Nm.tox_three h3 hE, hl] at hX
  have HX := Lib.hid hX
  unfold nopC at hw1
  unfold nopV
  have HW := Lib.hid hw1
  clear hw1 hb1 h1 hi hl hE h3 hs hn4 hX
  go_enter Tryz.func32, Tryz.ntmps32
  go_wp2_with fail
  rw [HW.out]
  refine (HC.out _).mono ?_
  rintro e w2 ⟨rfl, hb⟩
  have HB2 := Lib.hid hb
  clear hb x0 x1 x2 x3 x4 x5 x6 x7 x8 x9 x10
  obtain ⟨x0, x1, x2, x3, x4, x5, x6, x7, x8, x9, x10⟩ := HOB.out _ HB2.out
  have HF := Lib.hid (HFI.out _ HB2.out)
  have HI2 := Lib.hid (toxs_on HI.out HB2.out)
  have HBB := Lib.hid (seqB HB1.out HB2.out)
  by_cases hf : Nm.fT l O.t.s < m
  · have e1 : orNone (Nm.fT l O.t.s) m = (Nm.fT l O.t.s : Int) := if_pos hf
    have hx := HX.out
    rw [if_pos hf] at hx
    subst hx
    rw [e1] at HF
    clear HX
    generalize Nm.fT l O.t.s = K at *
    have d1 : decide ((0 : Int) ≤ (K : Int)) = true := decide_eq_true (by omega)
    have HO := Lib.hid (out_tx (er := 141) HL.out hmd HI2.out HBB.out)
    clear hf e1
    go_wp2_with fail
    refine HF.out.mono ?_
    rintro e w3 ⟨rfl, rfl⟩
    go_wp2_with fail
    go_ret2
    exact HO.out
  · have e1 : orNone (Nm.fT l O.t.s) m = -1 := if_neg hf
    have hx := HX.out
    rw [if_neg hf] at hx
    rw [e1] at HF
    clear hf e1 HX
    by_cases h8 : 8 ≤ m
    · rw [if_pos h8] at hx
      subst hx
      have d1 : decide ((8 : Int) ≤ (m : Int)) = true := decide_eq_true (by omega)
      have HO := Lib.hid (out_tx (er := 143) HL.out hmd HI2.out HBB.out)
      go_wp2_with fail
      refine HF.out.mono ?_
      rintro e w3 ⟨rfl, rfl⟩
      go_wp2_with fail
      go_ret2
      exact HO.out
    · rw [if_neg h8] at hx
      subst hx
      have d1 : decide ((8 : Int) ≤ (m : Int)) = false := decide_eq_false (by omega)
      have hbd : Below w2.heap.size w2 w2.drew := (Below.refl _ _).drew
      have nA := heap_alloc_new w2.drew (.cells #[] TT)
      have bA : Below w2.heap.size w2 (w2.drew.alloc (.cells #[] TT)) := hbd.alloc (Nat.le_refl _) _
      have sA : (w2.drew.alloc (.cells #[] TT)).heap.size = w2.heap.size + 1 := World.size_alloc _ _
      obtain ⟨qa, da, va, a1, a0, ⟨qa2, da2, va2, a2, a3, a4⟩, -⟩ := copy_one (t := O.t) (g2 := 0) (d := d) bA nA (Nat.le_refl _) HL.out (by omega) HI2.out
      have bB : Below w2.heap.size w2 ((w2.drew.alloc (.cells #[] TT)).alloc (toxO O.t)) := seqB bA ((Below.refl _ _).alloc (Nat.le_refl _) _)
      have nB := heap_alloc_new (w2.drew.alloc (.cells #[] TT)) (toxO O.t)
      have nB2 := (((Below.refl _ (w2.drew.alloc (.cells #[] TT))).alloc (Nat.le_refl _) (toxO O.t)).block _ (gc.blk_lt nA)).trans nA
      obtain ⟨qb, db, vb, b1, -, -, b2⟩ := copy_one (t := O.t) (g2 := w2.heap.size + 1) (d := d) bB nB2 (Nat.le_refl _) HL.out (by omega) HI2.out
      rw [sA] at nB
      obtain ⟨qb2, db2, vb2, b3, b4, b5⟩ := b2 nB (by show _ ≠ w2.heap.size; omega)
      have nC := heap_alloc_new w2.drew (toxO O.t)
      have bC0 : Below w2.heap.size w2 (w2.drew.alloc (toxO O.t)) := hbd.alloc (Nat.le_refl _) _
      have bC : Below w2.heap.size w2 ((w2.drew.alloc (toxO O.t)).alloc (.cells #[] TT)) := seqB bC0 ((Below.refl _ _).alloc (Nat.le_refl _) _)
      have sC : (w2.drew.alloc (toxO O.t)).heap.size = w2.heap.size + 1 := World.size_alloc _ _
      have nC2 := heap_alloc_new (w2.drew.alloc (toxO O.t)) (.cells #[] TT)
      have nC3 := (((Below.refl _ (w2.drew.alloc (toxO O.t))).alloc (Nat.le_refl _) (.cells #[] TT)).block _ (gc.blk_lt nC)).trans nC
      rw [sC] at nC2
      obtain ⟨qc, dc, vc, c1, -, -, c2⟩ := copy_one (t := O.t) (g2 := w2.heap.size) (d := d) bC nC2 (by omega) HL.out (by omega) HI2.out
      obtain ⟨qc2, dc2, vc2, c3, c4, c5⟩ := c2 nC3 (by omega)
      obtain ⟨-, -, -, -, -, ya5, ya6, ya7, ya8, ya9, ya10⟩ := HOB.out _ (seqB HB2.out a0)
      obtain ⟨-, -, -, -, -, yb5, yb6, yb7, yb8, yb9, yb10⟩ := HOB.out (w2.alloc (.cells #[] TT)) (seqB HB2.out ((Below.refl _ _).alloc (Nat.le_refl _) _))
      have HA1 := Lib.hid a1
      have HA2 := Lib.hid a2
      have HA3 := Lib.hid b1
      have HA4 := Lib.hid b3
      have HA5 := Lib.hid c1
      have HA6 := Lib.hid c3
      have HO1 := Lib.hid (out_tr (q0 := q) (m0 := m) (er := 0) a3 (seqB HBB.out a4))
      have HO2 := Lib.hid (out_tr (q0 := q) (m0 := m) (er := 0) b4 (seqB HBB.out b5))
      have HO3 := Lib.hid (out_tr (q0 := q) (m0 := m) (er := 0) c4 (seqB HBB.out c5))
      clear hbd nA bA sA a0 a1 a2 a3 a4 bB nB nB2 b1 b2 b3 b4 b5 nC bC0 bC sC nC2 nC3 c1 c2 c3 c4 c5 h8
      go_wp2_with fail
      refine HF.out.mono ?_
      rintro e w3 ⟨rfl, rfl⟩
      go_wp2_with fail
      go_region_law (first
        | (refine step_append_eq rfl (.tmp 38) (.tmp 39) 35 35 rfl (.slice (some ⟨w2.heap.size, 0, none⟩) 0 0) (.slice q m d) rfl rfl HA1.out ?_)
        | (refine step_append_eq rfl (.tmp 40) (.tmp 43) 35 35 rfl (.slice qa m da) (.slice (some ⟨va.heap.size, 0, none⟩) 1 1) rfl rfl HA2.out ?_)
        | (refine step_append_eq rfl (.tmp 38) (.tmp 39) 35 35 rfl (.slice (some ⟨w2.heap.size, 0, none⟩) 0 0) (.slice q m d) rfl rfl HA3.out ?_)
        | (refine step_append_eq rfl (.tmp 40) (.tmp 43) 35 35 rfl (.slice qb m db) (.slice (some ⟨w2.heap.size + 1, 0, none⟩) 1 1) rfl rfl HA4.out ?_)
        | (refine step_append_eq rfl (.tmp 38) (.tmp 39) 35 35 rfl (.slice (some ⟨w2.heap.size + 1, 0, none⟩) 0 0) (.slice q m d) rfl rfl HA5.out ?_)
        | (refine step_append_eq rfl (.tmp 40) (.tmp 43) 35 35 rfl (.slice qc m dc) (.slice (some ⟨w2.heap.size, 0, none⟩) 1 1) rfl rfl HA6.out ?_))
      all_goals
        simp only [List.getElem_toArray, List.getElem_cons_succ, List.getElem_cons_zero]
        go_wp2_with fail
        go_ret2
        first | exact HO1.out | exact HO2.out | exact HO3.out
set_option maxRecDepth 100000 in
set_option maxHeartbeats 16000000 in
theorem tox5_any (q : Option Addr) (m d : Nat) (l : List Tox) (O : NOp) (w : World) (h5 : O.kind = 5) (hE : O.t.chk = 0) (hs : O.t.s.size ≤ maxLen) (hl : l.length = m) (hmd : m ≤ d) (hm : m ≤ 900) (hi : ToxIn w q m l) :
    Calls Tryz.prog 32 #[.slice q m d, nopV O] w (OutTx q m (Nm.toxL l O).1 (Nm.toxL l O).2 w) := by
  obtain ⟨w1, hw1⟩ : ∃ w1, w.alloc (nopC O) = w1 := ⟨_, rfl⟩
  have hb1 : Below w.heap.size w w1 := by rw [← hw1]; exact (Below.refl _ _).alloc (Nat.le_refl _) _
  have h1 : w1.heap[w.heap.size]? = some (nopC O) := by rw [← hw1]; exact heap_alloc_new _ _
  obtain ⟨x0, x1, x2, x3, x4, x5, x6, x7, x8, x9, x10⟩ := nop_at h1
  have HOB := Lib.hid (fun W (hW : Below w1.heap.size w1 W) => nop_at ((hW.block _ (gc.blk_lt h1)).trans h1))
  have HI := Lib.hid (toxs_on hi hb1)
  have HB1 := Lib.hid hb1
  have HL := Lib.hid hl
  have HC := Lib.hid (fun W => gx.rcheck_any O.t.s hs O.t.k O.t.up O.t.o O.t.a O.t.b W)
  unfold gx.Chk at HC
  rw [show gx.checkB O.t.s O.t.k O.t.o O.t.a O.t.b = 0 from hE] at HC
  have hn4 : O.kind ≠ 4 := by omega
  have k4 : (O.kind == 4) = false := by simpa using hn4
  have HFI := Lib.hid (fun W (hW : Below w1.heap.size w1 W) => rfind_any q m d l O.t.s W hl (by omega) (toxs_on (toxs_on hi hb1) hW))
  have hn3 : O.kind ≠ 3 := by omega
  have k3 : (O.kind == 3) = false := by simpa using hn3
  obtain ⟨X, hX⟩ : ∃ X, Nm.toxL l O = X := ⟨_, rfl⟩
  rw [hX]
  rw [Nm.tox_five hn3 hn4 hE, hl] at hX
  have HX := Lib.hid hX
  unfold nopC at hw1
  unfold nopV
  have HW := Lib.hid hw1
  clear hw1 hb1 h1 hi hl hE h5 hs hn4 hn3 hX
  go_enter Tryz.func32, Tryz.ntmps32
  go_wp2_with fail
  rw [HW.out]
  refine (HC.out _).mono ?_
  rintro e w2 ⟨rfl, hb⟩
  have HB2 := Lib.hid hb
  clear hb x0 x1 x2 x3 x4 x5 x6 x7 x8 x9 x10
  obtain ⟨x0, x1, x2, x3, x4, x5, x6, x7, x8, x9, x10⟩ := HOB.out _ HB2.out
  have HF := Lib.hid (HFI.out _ HB2.out)
  have HI2 := Lib.hid (toxs_on HI.out HB2.out)
  have HBB := Lib.hid (seqB HB1.out HB2.out)
  by_cases hf : Nm.fT l O.t.s < m
  · have e1 : orNone (Nm.fT l O.t.s) m = (Nm.fT l O.t.s : Int) := if_pos hf
    have hx := HX.out
    rw [if_pos hf] at hx
    rw [e1] at HF
    clear HX
    generalize Nm.fT l O.t.s = K at *
    have d1 : decide ((K : Int) < 0) = false := decide_eq_false (by omega)
    obtain ⟨b, o, rfl, hcell⟩ := id (HI2.out (by omega))
    obtain ⟨e0, e1', e2, e3, e4, e5⟩ := hcell K hf
    rw [← Nat.add_assoc] at e1' e2 e3 e4 e5
    have hKi : (K : Int) < (m : Int) := by omega
    generalize l.getD K noTox = u at *
    obtain ⟨us, uk, uu, uo, ua, ub⟩ := u
    dsimp only at e0 e1' e2 e3 e4 e5 hx
    have HO := Lib.hid (fun n => out_tx (w := w) (er := 91) HL.out hmd (toxs_on HI2.out (nbelow_drewN w2 n)) (seqB HBB.out (nbelow_drewN w2 n)))
    clear e1 hcell
    go_wp2_with fail
    refine HF.out.mono ?_
    rintro e w3 ⟨rfl, rfl⟩
    by_cases hkk : uk = O.t.k
    · have dk : (uk != O.t.k) = false := by simpa using hkk
      by_cases hku : uu = O.t.up
      · rw [if_neg (by rw [hkk, hku]; simp)] at hx
        subst hx
        have du : (uu != O.t.up) = false := by simpa using hku
        have du2 : decide (uu = O.t.up) = true := decide_eq_true hku
        have du3 : (uu == O.t.up) = true := by simpa using hku
        have du4 : (!(uu == O.t.up)) = false := by rw [du3]; rfl
        have HN := Lib.hid (fun n => (show ToxIn (w2.drewN n) (some ⟨b, o, none⟩) m l from toxs_on HI2.out (nbelow_drewN w2 n)))
        clear hkk hku HO
        go_wp2_with fail
        go_quiet (fail)
        have hbd := nbelow_drewN w2 nq
        obtain ⟨wd, hwd⟩ : ∃ wd, w2.drewN nq = wd := ⟨_, rfl⟩
        have hin := HN.out nq
        rw [hwd] at hbd hin ⊢
        obtain ⟨i0, hi0, hz0, hz1, hz2⟩ := info_parts infoT
        obtain ⟨q1, d2, w4, r1, r2, r3⟩ := own_row (w := wd) (c := d) Tryz.underlying35 hi0 hz0 hz1 hz2 rfl (by decide) (tox_rd HL.out hin) (flatT_one _) (by unfold maxLen; omega) (by omega)
        have hb4 : Below w2.heap.size w2 w4 := seqB hbd r3
        have r2 : TRow w4 wd.heap.size q1 m d2 l := r2
        obtain ⟨b2, o2, rfl, hcc⟩ := r2.tox (by omega)
        obtain ⟨j0, j1, j2, j3, j4, j5⟩ := hcc K hf
        rw [← Nat.add_assoc] at j1 j2 j3 j4 j5
        obtain ⟨bb, oo, cur, e', hb0, hh, _⟩ := r2.som _ rfl
        cases e'
        have f0 : w4.frozen? ⟨b2, o2 + K * 6, none⟩ = false := gc.frozen_at hh
        have f1 : w4.frozen? ⟨b2, o2 + K * 6 + 1, none⟩ = false := gc.frozen_at hh
        have f2 : w4.frozen? ⟨b2, o2 + K * 6 + 2, none⟩ = false := gc.frozen_at hh
        have f3 : w4.frozen? ⟨b2, o2 + K * 6 + 3, none⟩ = false := gc.frozen_at hh
        have f4 : w4.frozen? ⟨b2, o2 + K * 6 + 4, none⟩ = false := gc.frozen_at hh
        have f5 : w4.frozen? ⟨b2, o2 + K * 6 + 5, none⟩ = false := gc.frozen_at hh
        have hg5 := gc.setCells_grown w4 b2 (o2 + K * 6) O.t.cells
        have hb5 : Below wd.heap.size wd (w4.setCells b2 (o2 + K * 6) O.t.cells) := r3.trans ⟨hg5.os, hg5.tape, hg5.output, hg5.size, fun k hk => hg5.block k (Nat.lt_of_lt_of_le hk r3.size) fun e => by injection e with e; omega⟩
        have HOS := Lib.hid (out_tr (q0 := some ⟨b, o, none⟩) (m0 := m) (er := 0) (r2.setT hf O.t) (seqB HBB.out (seqB hbd hb5)))
        clear x0 x1 x2 x3 x4 x5 x6 x7 x8 x9 x10 e0 e1' e2 e3 e4 e5
        obtain ⟨x0, x1, x2, x3, x4, x5, x6, x7, x8, x9, x10⟩ := HOB.out _ (seqB HB2.out hb4)
        have HR := Lib.hid r1
        have HCC := Lib.hid hcc
        generalize l.getD K noTox = v at j0 j1 j2 j3 j4 j5
        clear r1 r2 r3 hb4 hh hg5 hb5 hb0 hcc hin hi0 hz0 hz1 hz2 hbd HN
        go_wp2_with (at_builtin; refine Lib.wpList_append_run _ rfl _ _ _ _ rfl (.slice (some ⟨wd.heap.size, 0, none⟩) 0 0) (.slice (some ⟨b, o, none⟩) m d) rfl rfl _ _ (HR.out _) ?_)
        go_ret2
        exact HOS.out
      · rw [if_pos (Or.inr hku)] at hx
        subst hx
        have du : (uu != O.t.up) = true := by simpa using hku
        have du2 : decide (uu = O.t.up) = false := decide_eq_false hku
        have du3 : (uu == O.t.up) = false := by simpa using hku
        have du4 : (!(uu == O.t.up)) = true := by rw [du3]; rfl
        clear hku hkk
        go_wp2_with fail
        go_quiet (fail)
        go_wp2_with fail
        go_ret2
        exact HO.out _
    · rw [if_pos (Or.inl hkk)] at hx
      subst hx
      have dk : (uk != O.t.k) = true := by simpa using hkk
      clear hkk
      go_wp2_with fail
      go_quiet (fail)
      go_wp2_with fail
      go_ret2
      exact HO.out _
  · have e1 : orNone (Nm.fT l O.t.s) m = -1 := if_neg hf
    have hx := HX.out
    rw [if_neg hf] at hx
    subst hx
    rw [e1] at HF
    clear HX
    have HO := Lib.hid (out_tx (er := 142) HL.out hmd HI2.out HBB.out)
    clear hf e1
    go_wp2_with fail
    refine HF.out.mono ?_
    rintro e w3 ⟨rfl, rfl⟩
    go_wp2_with fail
    go_ret2
    exact HO.out
end Go.Proofs.YtmghkcjljnlocaaGreatDoor

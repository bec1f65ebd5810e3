/-
  Contracts of Reset, kind, does; a call that came in; 'chicanelaw14.NamesOne' returns true. Conditions: as each states.
-/
import Derived.Test.YtmghkcjljnlocaaGreatDoorQA
import Derived.Test.YtmghkcjljnlocaaGreatDoorPR
import Derived.Test.YtmghkcjljnlocaaGreatDoorR2
namespace Go.Proofs.YtmghkcjljnlocaaGreatDoor
open Go.RowKit
def reset1 (p : Prx) : Prx := ⟨p.s, true, p.most, []⟩
/-- A list of the call's own is told. -/
def OutL (l' : List Prx) (w : World) (e : Ending) (w' : World) : Prop := ∃ q n c, e = .returned (.slice q n c) ∧ POwn w' w.heap.size q n c l' ∧ Below w.heap.size w w'
set_option maxRecDepth 100000 in
set_option maxHeartbeats 8000000 in
theorem reset_any (p : Option Addr) (n d : Nat) (l : List Prx) (O : NOp) (w : World) (hkd : O.kind = 6) (hl : l.length = n) (hn : n ≤ 1000000) (hz : Lean14 l) (hi : PrxIn w p n l) :
    Calls Tryz.prog 30 #[.slice p n d] w fun e w' => OutL (Nm.doP l O).1 w e w' ∧ (Nm.doP l O).2 = 0 := by
  have hR := right_any p n d l w hl hn hz hi
  by_cases hr : Nm.Right l
  · rw [right_yes hr] at hR
    have h8 : n ≤ 8 := by rw [← hl]; exact hr.few
    have hdo : Nm.doP l O = (l.map reset1, 0) := by
      rw [doP_yes hr]
      unfold Nm.doR
      rw [if_neg (by omega), if_pos hkd]
      rfl
    rw [hdo]
    have HR := Lib.hid hR
    have HI := Lib.hid hi
    have HL := Lib.hid hl
    clear hR hi hl hr hdo hz
    go_enter Tryz.func30, Tryz.ntmps30
    go_wp2_with fail
    refine HR.out.mono ?_
    rintro e w1 ⟨rfl, hb⟩
    have HB1 := Lib.hid hb
    clear hb HR
    go_wp2_with fail
    go_loopw [3, 5, 11] (fun x y i wr => ∃ k : Nat, k ≤ n ∧ i = .int .i64 k ∧ ∃ q c, x = .slice q k c ∧ Hid (POwn wr w.heap.size q k c ((l.take k).map reset1)) ∧ Hid (Below w.heap.size w wr)) (fun _ _ i _ => n - (intOf i).toNat)
    case atStart => exact ⟨0, by omega, rfl, none, 0, rfl, Lib.hid (pown_nil w1 w.heap.size), HB1⟩
    case round =>
      clear HB1
      obtain ⟨k, hk, rfl, q, c, rfl, HO, HB⟩ := hrel
      by_cases hlt : k < n
      · obtain ⟨b, o, rfl, hcell⟩ := prxs_on HI.out HB.out (by omega)
        obtain ⟨c0, c1, c2, qt, mt, dt, c3, hmd, hlt2, htx⟩ := hcell k hlt
        rw [← Nat.add_assoc] at c1 c2 c3
        have hkl : k < l.length := by rw [HL.out]; exact hlt
        have hg : l.getD k noPrx = l[k] := getD_at _ _ hkl
        have HT := Lib.hid (show (l.take (k + 1)).map reset1 = (l.take k).map reset1 ++ [reset1 (l.getD k noPrx)] from by rw [hg, List.take_succ_eq_append_getElem hkl, List.map_append]; rfl)
        generalize l.getD k noPrx = x at *
        obtain ⟨xs, xon, xm, xt⟩ := x
        simp only at c0 c1 c2 hlt2 htx
        have hal0 : Below wr.heap.size wr (wr.alloc (.cells #[.string xs, .bool xon, .int .i64 xm, .slice qt mt dt] TP)) := (Below.refl _ _).alloc (Nat.le_refl _) _
        obtain ⟨zs, hz1, hz2, hdis⟩ := HO.out
        have hal : Below wr.heap.size wr ((wr.alloc (.cells #[.string xs, .bool xon, .int .i64 xm, .slice qt mt dt] TP)).alloc (.cells #[.string xs, .bool true, .int .i64 xm, .slice none 0 0] TP)) := seqB hal0 ((Below.refl _ _).alloc (Nat.le_refl _) _)
        have hs0 : (wr.alloc (.cells #[.string xs, .bool xon, .int .i64 xm, .slice qt mt dt] TP)).heap.size = wr.heap.size + 1 := World.size_alloc _ _
        have hnew := heap_alloc_new (wr.alloc (.cells #[.string xs, .bool xon, .int .i64 xm, .slice qt mt dt] TP)) (.cells #[.string xs, .bool true, .int .i64 xm, .slice none 0 0] TP)
        rw [hs0] at hnew
        obtain ⟨q3, c3', w3, r1, r2, r3⟩ := PRow.app (hz2.on hal) (Nat.le_trans HB.out.size hal.size) (by omega) (a := ⟨wr.heap.size + 1, 0, none⟩) (d := 1) ⟨⟨xs, true, xm, []⟩, none, 0, 0⟩ (gc.orow_nil _ _ _ _) (fun j u hj => by
          rw [WideShapes.add_plain]
          simp only [World.cell?, hnew]
          rw [Nat.zero_add]
          simpa [RP.cells] using hj)
        have HR := Lib.hid r1
        have HO3 := Lib.hid (show POwn w3 w.heap.size q3 (k + 1) c3' ((l.take (k + 1)).map reset1) from ⟨zs ++ [⟨⟨xs, true, xm, []⟩, none, 0, 0⟩], by rw [List.map_append, hz1, HT.out]; rfl, r2, dis_app hdis fun y hy a a' e e' => by cases e'⟩)
        have HB3 := Lib.hid ((HB.out.trans (hal.mono HB.out.size)).trans r3)
        clear r1 r2 r3 hz1 hz2 hdis hal hal0 hnew hs0 HT HO hcell hkl hg htx hlt2
        go_wp2_with (at_builtin; refine Lib.wpList_append_run _ rfl _ _ _ _ rfl (.slice q k c) (.slice (some ⟨wr.heap.size + 1, 0, none⟩) 1 1) rfl rfl _ _ (HR.out _) ?_)
        go_roundw
        case rel => exact ⟨k + 1, by omega, by go_num, q3, c3', rfl, HO3, HB3⟩
        case measure => simp [intOf]; omega
      · obtain rfl : k = n := by omega
        have HE := Lib.hid (show l.take k = l from List.take_of_length_le (by rw [HL.out]; exact Nat.le_refl _))
        go_wp2_with fail
        go_ret
        exact ⟨⟨q, k, c, rfl, by have h := HO.out; rwa [HE.out] at h, HB.out⟩, by first | rfl | trivial⟩
  · rw [right_no hr] at hR
    have HR := Lib.hid hR
    rw [doP_no hr, if_pos hkd]
    clear hR hi hz hr hl
    go_enter Tryz.func30, Tryz.ntmps30
    go_wp2_with fail
    refine HR.out.mono ?_
    rintro e w1 ⟨rfl, hb⟩
    have HB := Lib.hid hb
    clear hb HR
    go_wp2_with fail
    go_ret
    exact ⟨⟨none, 0, 0, rfl, pown_nil _ _, HB.out⟩, by first | rfl | trivial⟩
def nopV (o : NOp) : Value := .agg #[.int .i64 o.kind, .int .i64 o.n, .string o.s, .string o.x, .bool o.on, .string o.t.s, .int .i64 o.t.k, .bool o.t.up, .int .i64 o.t.o, .int .i64 o.t.a, .int .i64 o.t.b]
def nopC (o : NOp) : Obj := .cells #[.int .i64 o.kind, .int .i64 o.n, .string o.s, .string o.x, .bool o.on, .string o.t.s, .int .i64 o.t.k, .bool o.t.up, .int .i64 o.t.o, .int .i64 o.t.a, .int .i64 o.t.b] 26
structure NOp.Fit (o : NOp) : Prop where
  lo : 0 ≤ o.kind
  hi : o.kind ≤ 6
  s : o.s.size ≤ 100
  t : o.t.s.size ≤ 100
  x : o.x.size ≤ 100
theorem nop_at {W : World} {o : NOp} {B : Nat} (h : W.heap[B]? = some (nopC o)) : W.cell? ⟨B, 0, none⟩ = some (.int .i64 o.kind) ∧ W.cell? ⟨B, 1, none⟩ = some (.int .i64 o.n) ∧ W.cell? ⟨B, 2, none⟩ = some (.string o.s) ∧ W.cell? ⟨B, 3, none⟩ = some (.string o.x) ∧ W.cell? ⟨B, 4, none⟩ = some (.bool o.on) ∧
    W.cell? ⟨B, 5, none⟩ = some (.string o.t.s) ∧ W.cell? ⟨B, 6, none⟩ = some (.int .i64 o.t.k) ∧ W.cell? ⟨B, 7, none⟩ = some (.bool o.t.up) ∧ W.cell? ⟨B, 8, none⟩ = some (.int .i64 o.t.o) ∧ W.cell? ⟨B, 9, none⟩ = some (.int .i64 o.t.a) ∧ W.cell? ⟨B, 10, none⟩ = some (.int .i64 o.t.b) := by
  simp [World.cell?, h, nopC]
/-- What kind tells. -/
def OutKd (F : Prop) (w : World) (e : Ending) (w' : World) : Prop := ∃ b, e = .returned (.bool b) ∧ (b = true ↔ F) ∧ Below w.heap.size w w'
set_option maxRecDepth 100000 in
set_option maxHeartbeats 8000000 in
theorem kind_any (o : NOp) (w : World) (hs : o.s.size ≤ maxLen) (ht : o.t.s.size ≤ maxLen) (hx : o.x.size ≤ maxLen) :
    Calls Tryz.prog 10 #[nopV o] w (OutKd o.Fit w) := by
  have HB := Lib.hid (show Below w.heap.size w (w.alloc (nopC o)) from (Below.refl _ _).alloc (Nat.le_refl _) _)
  have HF := Lib.hid (show o.Fit ↔ (0 ≤ o.kind ∧ o.kind ≤ 6 ∧ o.s.size ≤ 100 ∧ o.t.s.size ≤ 100 ∧ o.x.size ≤ 100) from ⟨fun h => ⟨h.1, h.2, h.3, h.4, h.5⟩, fun h => ⟨h.1, h.2.1, h.2.2.1, h.2.2.2.1, h.2.2.2.2⟩⟩)
  generalize o.Fit = F at HF
  obtain ⟨kd, n, s, x, on, ⟨ts, tk, tu, t2, ta, tb⟩⟩ := o
  unfold nopV
  unfold nopC at HB
  dsimp only at hs ht hx HF HB ⊢
  unfold maxLen at hs ht hx
  go_enter Tryz.func10, Tryz.ntmps10
  by_cases h1 : 0 ≤ kd
  · have k1 : decide ((0 : Int) ≤ kd) = true := decide_eq_true h1
    by_cases h2 : kd ≤ 6
    · have k2 : decide (kd ≤ (6 : Int)) = true := decide_eq_true h2
      by_cases h3 : s.size ≤ 100
      · have k3 : decide ((s.size : Int) ≤ 100) = true := decide_eq_true (by omega)
        by_cases h4 : ts.size ≤ 100
        · have k4 : decide ((ts.size : Int) ≤ 100) = true := decide_eq_true (by omega)
          by_cases h5 : x.size ≤ 100
          · have k5 : decide ((x.size : Int) ≤ 100) = true := decide_eq_true (by omega)
            go_wp2_with fail
            go_ret
            exact ⟨true, rfl, ⟨fun _ => HF.out.2 ⟨h1, h2, h3, h4, h5⟩, fun _ => rfl⟩, HB.out⟩
          · have k5 : decide ((x.size : Int) ≤ 100) = false := decide_eq_false (by omega)
            go_wp2_with fail
            go_ret
            exact ⟨false, rfl, ⟨fun h => (by cases h), fun h => absurd (HF.out.1 h).2.2.2.2 h5⟩, HB.out⟩
        · have k4 : decide ((ts.size : Int) ≤ 100) = false := decide_eq_false (by omega)
          go_wp2_with fail
          go_ret
          exact ⟨false, rfl, ⟨fun h => (by cases h), fun h => absurd (HF.out.1 h).2.2.2.1 h4⟩, HB.out⟩
      · have k3 : decide ((s.size : Int) ≤ 100) = false := decide_eq_false (by omega)
        go_wp2_with fail
        go_ret
        exact ⟨false, rfl, ⟨fun h => (by cases h), fun h => absurd (HF.out.1 h).2.2.1 h3⟩, HB.out⟩
    · have k2 : decide (kd ≤ (6 : Int)) = false := decide_eq_false (by omega)
      go_wp2_with fail
      go_ret
      exact ⟨false, rfl, ⟨fun h => (by cases h), fun h => absurd (HF.out.1 h).2.1 (by omega)⟩, HB.out⟩
  · have k1 : decide ((0 : Int) ≤ kd) = false := decide_eq_false (by omega)
    go_wp2_with fail
    go_ret
    exact ⟨false, rfl, ⟨fun h => (by cases h), fun h => absurd (HF.out.1 h).1 (by omega)⟩, HB.out⟩
set_option maxRecDepth 100000 in
set_option maxHeartbeats 16000000 in
theorem does_any (p : Option Addr) (n d : Nat) (l : List Prx) (O : NOp) (w : World) (hf : O.Fit) (hl : l.length = n) (hn : n ≤ 1000000) (hz : Lean14 l) (hi : PrxIn w p n l) :
    Calls Tryz.prog 12 #[.slice p n d, nopV O] w (OutDo (Nm.doP l O).1 (Nm.doP l O).2 w) := by
  have hc : O.kind = 0 ∨ O.kind = 1 ∨ O.kind = 2 ∨ O.kind = 3 ∨ O.kind = 4 ∨ O.kind = 5 ∨ O.kind = 6 := by
    have := hf.lo
    have := hf.hi
    omega
  obtain ⟨w1, hw1⟩ : ∃ w1, w.alloc (nopC O) = w1 := ⟨_, rfl⟩
  have hb1 : Below w.heap.size w w1 := by rw [← hw1]; exact (Below.refl _ _).alloc (Nat.le_refl _) _
  have h1 : w1.heap[w.heap.size]? = some (nopC O) := by rw [← hw1]; exact heap_alloc_new _ _
  have hi1 := prxs_on hi hb1
  have HB := Lib.hid hb1
  rcases hc with h | h | h | h | h | h | h
  · have HX := Lib.hid (add_any p n d l O w1 h (by unfold maxLen; have := hf.s; omega) hl hn hz hi1)
    clear hl hn hz hi hf h1 hi1 hb1
    generalize Nm.doP l O = Y at HX ⊢
    obtain ⟨kd, n, s, x, on, ⟨ts, tk, tu, t2, ta, tb⟩⟩ := O
    unfold nopC at hw1
    unfold nopV
    dsimp only at hw1 HX h ⊢
    subst h
    have HW := Lib.hid hw1
    clear hw1
    go_enter Tryz.func12, Tryz.ntmps12
    go_wp2_with fail
    rw [HW.out]
    refine HX.out.mono ?_
    rintro e w2 ⟨q, m, c, rfl, hp, hb⟩
    have HP := Lib.hid (hp.low HB.out.size)
    have HB2 := Lib.hid (seqB HB.out hb)
    clear hp hb HX
    go_wp2_with fail
    go_ret2
    exact out_same HP.out HB2.out
  · have HX := Lib.hid (drop_any p n d l O w1 h  hl hn hz hi1)
    clear hl hn hz hi hf h1 hi1 hb1
    generalize Nm.doP l O = Y at HX ⊢
    obtain ⟨kd, n, s, x, on, ⟨ts, tk, tu, t2, ta, tb⟩⟩ := O
    unfold nopC at hw1
    unfold nopV
    dsimp only at hw1 HX h ⊢
    subst h
    have HW := Lib.hid hw1
    clear hw1
    go_enter Tryz.func12, Tryz.ntmps12
    go_wp2_with fail
    rw [HW.out]
    refine HX.out.mono ?_
    rintro e w2 ⟨q, m, c, rfl, hp, hb⟩
    have HP := Lib.hid (hp.low HB.out.size)
    have HB2 := Lib.hid (seqB HB.out hb)
    clear hp hb HX
    go_wp2_with fail
    go_ret2
    exact out_same HP.out HB2.out
  · have HX := Lib.hid (switch_any p n d l O w1 h  hl hn hz hi1)
    clear hl hn hz hi hf h1 hi1 hb1
    generalize Nm.doP l O = Y at HX ⊢
    obtain ⟨kd, n, s, x, on, ⟨ts, tk, tu, t2, ta, tb⟩⟩ := O
    unfold nopC at hw1
    unfold nopV
    dsimp only at hw1 HX h ⊢
    subst h
    have HW := Lib.hid hw1
    clear hw1
    go_enter Tryz.func12, Tryz.ntmps12
    go_wp2_with fail
    rw [HW.out]
    refine HX.out.mono ?_
    rintro e w2 ⟨q, m, c, rfl, hp, hb⟩
    have HP := Lib.hid (hp.low HB.out.size)
    have HB2 := Lib.hid (seqB HB.out hb)
    clear hp hb HX
    go_wp2_with fail
    go_ret2
    exact out_same HP.out HB2.out
  · have HX := Lib.hid (addToxic_any p n d l O w1 h (by unfold maxLen; have := hf.t; omega) hl hn hz hi1)
    clear hl hn hz hi hf h1 hi1 hb1
    generalize Nm.doP l O = Y at HX ⊢
    obtain ⟨kd, n, s, x, on, ⟨ts, tk, tu, t2, ta, tb⟩⟩ := O
    unfold nopC at hw1
    unfold nopV
    dsimp only at hw1 HX h ⊢
    subst h
    have HW := Lib.hid hw1
    clear hw1
    go_enter Tryz.func12, Tryz.ntmps12
    go_wp2_with fail
    rw [HW.out]
    refine HX.out.mono ?_
    rintro e w2 ⟨q, m, c, rfl, hp, hb⟩
    have HP := Lib.hid (hp.low HB.out.size)
    have HB2 := Lib.hid (seqB HB.out hb)
    clear hp hb HX
    go_wp2_with fail
    go_ret2
    exact out_same HP.out HB2.out
  · have HX := Lib.hid (dropToxic_any p n d l O w1 h  hl hn hz hi1)
    clear hl hn hz hi hf h1 hi1 hb1
    generalize Nm.doP l O = Y at HX ⊢
    obtain ⟨kd, n, s, x, on, ⟨ts, tk, tu, t2, ta, tb⟩⟩ := O
    unfold nopC at hw1
    unfold nopV
    dsimp only at hw1 HX h ⊢
    subst h
    have HW := Lib.hid hw1
    clear hw1
    go_enter Tryz.func12, Tryz.ntmps12
    go_wp2_with fail
    rw [HW.out]
    refine HX.out.mono ?_
    rintro e w2 ⟨q, m, c, rfl, hp, hb⟩
    have HP := Lib.hid (hp.low HB.out.size)
    have HB2 := Lib.hid (seqB HB.out hb)
    clear hp hb HX
    go_wp2_with fail
    go_ret2
    exact out_same HP.out HB2.out
  · have HX := Lib.hid (setToxic_any p n d l O w1 h (by unfold maxLen; have := hf.t; omega) hl hn hz hi1)
    clear hl hn hz hi hf h1 hi1 hb1
    generalize Nm.doP l O = Y at HX ⊢
    obtain ⟨kd, n, s, x, on, ⟨ts, tk, tu, t2, ta, tb⟩⟩ := O
    unfold nopC at hw1
    unfold nopV
    dsimp only at hw1 HX h ⊢
    subst h
    have HW := Lib.hid hw1
    clear hw1
    go_enter Tryz.func12, Tryz.ntmps12
    go_wp2_with fail
    rw [HW.out]
    refine HX.out.mono ?_
    rintro e w2 ⟨q, m, c, rfl, hp, hb⟩
    have HP := Lib.hid (hp.low HB.out.size)
    have HB2 := Lib.hid (seqB HB.out hb)
    clear hp hb HX
    go_wp2_with fail
    go_ret2
    exact out_same HP.out HB2.out
  · have HX := Lib.hid (reset_any p n d l O w1 h hl hn hz hi1)
    clear hl hn hz hi hf h1 hi1 hb1
    generalize Nm.doP l O = Y at HX ⊢
    obtain ⟨kd, n, s, x, on, ⟨ts, tk, tu, t2, ta, tb⟩⟩ := O
    unfold nopC at hw1
    unfold nopV
    dsimp only at hw1 HX h ⊢
    subst h
    have HW := Lib.hid hw1
    clear hw1
    go_enter Tryz.func12, Tryz.ntmps12
    go_wp2_with fail
    rw [HW.out]
    refine HX.out.mono ?_
    rintro e w2 ⟨⟨q, m, c, rfl, hp, hb⟩, hz0⟩
    have HP := Lib.hid (hp.low HB.out.size)
    have HB2 := Lib.hid (seqB HB.out hb)
    have HZ := Lib.hid hz0
    clear hp hb HX hz0
    go_wp2_with fail
    go_ret2
    rw [HZ.out]
    exact out_same HP.out HB2.out
theorem right_lean {l : List Prx} (h : Nm.Right l) : Lean14 l ∧ l.length ≤ 8 := by
  refine ⟨fun x hx => ?_, h.few⟩
  obtain ⟨h1, _, _, h4, h5, _⟩ := (Nm.chkP_iff x).1 (h.each x hx)
  have := name_small h1
  exact ⟨by unfold maxLen; omega, by omega, fun t ht => by have := tox_small (h5 t ht); unfold maxLen; omega⟩
section
open Go.ChangeShapes Go.WideShapes Go.ChangeAt
theorem cellsOp14 : Tryz.prog.cellsOf 26 = 11 := by kernel_rfl
set_option maxRecDepth 100000 in
/-- A toxic's cells, as they came in: no places. -/
theorem tox_in0 {H : Type} {enc : TypeId × Value → H} {W : World} {fuel : Nat} {c0 c1 c2 c3 c4 c5 : Value} {y : DataW H × List MemPlace}
    (hf : DataW.trod enc Tryz.prog W 0 (fun _ => true) true fuel 24 [c0, c1, c2, c3, c4, c5] = some y) :
    ∃ t : Tox, c0 = .string t.s ∧ c1 = .int .i64 t.k ∧ c2 = .bool t.up ∧ c3 = .int .i64 t.o ∧ c4 = .int .i64 t.a ∧ c5 = .int .i64 t.b ∧ t.s.size ≤ maxLen ∧ y.2 = [] := by
  obtain ⟨xs, m, hy, hx, _, hl, hi⟩ := DataW.trod_struct Tryz.underlying24 hf
  obtain ⟨y0, y1, y2, y3, y4, y5, rfl⟩ : ∃ y0 y1 y2 y3 y4 y5, xs = [y0, y1, y2, y3, y4, y5] := by
    match xs, hl with
    | [y0, y1, y2, y3, y4, y5], _ => exact ⟨y0, y1, y2, y3, y4, y5, rfl⟩
  have e0 := hi 0 _ rfl
  have e1 := hi 1 _ rfl
  have e2 := hi 2 _ rfl
  have e3 := hi 3 _ rfl
  have e4 := hi 4 _ rfl
  have e5 := hi 5 _ rfl
  simp [cellsInt, cellsStr, cellsBool] at e0 e1 e2 e3 e4 e5
  obtain ⟨x0, q0, rfl, w0⟩ := DataW.trod_string Tryz.underlying9 e0
  obtain ⟨x1, q1, rfl, w1⟩ := DataW.trod_int Tryz.underlying3 e1
  obtain ⟨x2, q2, rfl⟩ := DataW.trod_bool Tryz.underlying4 e2
  obtain ⟨x3, q3, rfl, w3⟩ := DataW.trod_int Tryz.underlying3 e3
  obtain ⟨x4, q4, rfl, w4⟩ := DataW.trod_int Tryz.underlying3 e4
  obtain ⟨x5, q5, rfl, w5⟩ := DataW.trod_int Tryz.underlying3 e5
  cases q0
  cases q1
  cases q2
  cases q3
  cases q4
  cases q5
  exact ⟨⟨x0, x1, x2, x3, x4, x5⟩, rfl, rfl, rfl, rfl, rfl, rfl, w0, by rw [hx]; simp⟩
set_option maxRecDepth 100000 in
/-- A call that came in. -/
theorem openOp {H : Type} {enc : TypeId × Value → H} {W : World} {base : Nat} {v : Value} {d : DataW H} {p : List MemPlace}
    (ho : Value.okWide Tryz.prog W .any base 26 v) (h : DataW.Trod enc Tryz.prog W 0 (fun _ => true) true 26 v d p) :
    ∃ o : NOp, v = nopV o ∧ (o.s.size ≤ maxLen ∧ o.t.s.size ≤ maxLen ∧ o.x.size ≤ maxLen) ∧ p = [] := by
  simp only [Value.okWide, Tryz.underlying26] at ho
  obtain ⟨cs, rfl, hs, _⟩ := ho
  rw [cellsOp14] at hs
  obtain ⟨l⟩ := cs
  obtain ⟨c0, c1, c2, c3, c4, c5, c6, c7, c8, c9, c10, rfl⟩ : ∃ c0 c1 c2 c3 c4 c5 c6 c7 c8 c9 c10, l = [c0, c1, c2, c3, c4, c5, c6, c7, c8, c9, c10] := by
    match l, hs with
    | [c0, c1, c2, c3, c4, c5, c6, c7, c8, c9, c10], _ => exact ⟨c0, c1, c2, c3, c4, c5, c6, c7, c8, c9, c10, rfl⟩
  obtain ⟨fuel, hf⟩ := h
  obtain ⟨xs, m, rfl, hx, _, hl, hi⟩ := DataW.trod_struct Tryz.underlying26 hf
  obtain ⟨y0, y1, y2, y3, y4, y5, rfl⟩ : ∃ y0 y1 y2 y3 y4 y5, xs = [y0, y1, y2, y3, y4, y5] := by
    match xs, hl with
    | [y0, y1, y2, y3, y4, y5], _ => exact ⟨y0, y1, y2, y3, y4, y5, rfl⟩
  have e0 := hi 0 _ rfl
  have e1 := hi 1 _ rfl
  have e2 := hi 2 _ rfl
  have e3 := hi 3 _ rfl
  have e4 := hi 4 _ rfl
  have e5 := hi 5 _ rfl
  simp [cellsInt, cellsStr, cellsBool, cellsTox, Value.cells] at e0 e1 e2 e3 e4 e5
  obtain ⟨x0, q0, rfl, w0⟩ := DataW.trod_int Tryz.underlying3 e0
  obtain ⟨x1, q1, rfl, w1⟩ := DataW.trod_int Tryz.underlying3 e1
  obtain ⟨x2, q2, rfl, w2⟩ := DataW.trod_string Tryz.underlying9 e2
  obtain ⟨x3, q3, rfl, w3⟩ := DataW.trod_string Tryz.underlying9 e3
  obtain ⟨x4, q4, rfl⟩ := DataW.trod_bool Tryz.underlying4 e4
  obtain ⟨t, t0, t1, t2, t3, t4, t5, tw, tn⟩ := tox_in0 e5
  subst t0 t1 t2 t3 t4 t5
  cases q0
  cases q1
  cases q2
  cases q3
  cases q4
  refine ⟨⟨x0, x1, x2, x3, x4, t⟩, rfl, ⟨w2, tw, w3⟩, ?_⟩
  simpa [tn] using (congrArg Prod.snd hx)
end
/-- One proxy, in a slice. -/
theorem one_prx {w : World} {g : Nat} {x : Prx} {pl : Option Addr} {nl dl : Nat} (h : w.heap[g]? = some (.cells #[.string x.s, .bool x.on, .int .i64 x.most, .slice pl nl dl] TP (0, 0))) (hl : x.ts.length = nl) (hnd : nl ≤ dl) (hi : ToxIn w pl nl x.ts) : PrxIn w (some ⟨g, 0, none⟩) 1 [x] := fun _ => ⟨g, 0, rfl, fun i hi1 => by
  obtain rfl : i = 0 := by omega
  exact ⟨cell_of_row _ _ 0 _ _ _ h, cell_of_row _ _ 1 _ _ _ h, cell_of_row _ _ 2 _ _ _ h, pl, nl, dl, cell_of_row _ _ 3 _ _ _ h, hnd, hl, hi⟩⟩
/-- One of a slice's. -/
theorem part_prx {w : World} {b o n K : Nat} {l : List Prx} (h : PrxIn w (some ⟨b, o, none⟩) n l) (hK : K < n) : PrxIn w (some ⟨b, o + K * 4, none⟩) 1 [l.getD K noPrx] := fun _ => ⟨b, o + K * 4, rfl, fun i hi1 => by
  obtain rfl : i = 0 := by omega
  obtain ⟨b', o', e, hc⟩ := h (by omega)
  cases e
  obtain ⟨h0, h1, h2, q, m, d, h3, h4⟩ := hc K hK
  rw [← Nat.add_assoc] at h1 h2 h3
  exact ⟨h0, h1, h2, q, m, d, h3, h4⟩⟩
theorem few_one {x : Prx} (h : x.ts.length ≤ 1000000) : Few14 [x] := fun y hy => by rw [List.mem_singleton.1 hy]; exact h
theorem one_there {l : List Prx} (hr : Nm.Right l) {O : NOp} (h6 : O.kind ≠ 6) {x : Prx} (hx : x ∈ l) (hn : x.s ≠ O.s) : Nm.fP (Nm.doP l O).1 x.s < (Nm.doP l O).1.length ∧ (Nm.doP l O).1.getD (Nm.fP (Nm.doP l O).1 x.s) noPrx = x := by
  have hm : x ∈ (Nm.doP l O).1 := by rw [doP_yes hr]; exact Nm.do_other h6 hx hn
  have hR := Nm.doP_right l O
  generalize (Nm.doP l O).1 = L at *
  have hk : Nm.fP L x.s < L.length := Nm.fnd_lt.2 ⟨x, hm, rfl⟩
  refine ⟨hk, ?_⟩
  rw [getD_at _ _ hk]
  obtain ⟨j, hj, hxj⟩ := List.getElem_of_mem hm
  have e1 : L[Nm.fP L x.s].s = x.s := Nm.fnd_key (key := Prx.s) hk
  have e2 : Nm.fP L x.s = j := Nm.ord_once hR.ord hk hj (by rw [e1, hxj])
  exact (show L[Nm.fP L x.s] = L[j] by simp only [e2]).trans hxj
set_option maxRecDepth 100000 in
set_option maxHeartbeats 16000000 in
theorem namesOne.walk (p : Option Addr) (n d : Nat) (l : List Prx) (O : NOp) (w : World) (hl : l.length = n) (hnx : n ≤ maxLen) (hm : ∀ x ∈ l, x.ts.length ≤ maxLen ∧ x.s.size ≤ maxLen) (hz : ∀ x ∈ l, ∀ u ∈ x.ts, u.s.size ≤ maxLen) (hi : PrxIn w p n l) (htab : gx.Tab w) (hs : O.s.size ≤ maxLen) (ht : O.t.s.size ≤ maxLen) (hx : O.x.size ≤ maxLen) :
    Calls Tryz.prog 6 #[.slice p n d, nopV O] w fun e w' => e = .returned (.bool true) ∧ Below w.heap.size w w' := by
  obtain ⟨w1, hw1⟩ : ∃ w1, w.alloc (nopC O) = w1 := ⟨_, rfl⟩
  have hb1 : Below w.heap.size w w1 := by rw [← hw1]; exact (Below.refl _ _).alloc (Nat.le_refl _) _
  have h1 : w1.heap[w.heap.size]? = some (nopC O) := by rw [← hw1]; exact heap_alloc_new _ _
  have HB1 := Lib.hid hb1
  have HOB := Lib.hid (fun W (hW : Below w1.heap.size w1 W) => nop_at ((hW.block _ (gc.blk_lt h1)).trans h1))
  have HI := Lib.hid (prxs_on hi hb1)
  have HAL := Lib.hid (fun W (hW : Below w1.heap.size w1 W) => alive_any W (gx.tab_on (gx.tab_on htab hb1) hW))
  have HF := Lib.hid (few_any p n d l w1 hl hnx hm (prxs_on hi hb1))
  have HK := Lib.hid (fun W => kind_any O W hs ht hx)
  unfold nopC at hw1
  unfold nopV at HK ⊢
  have HW := Lib.hid hw1
  have HZ := Lib.hid hz
  have HL := Lib.hid hl
  have hs63 : O.s.size ≤ 9223372036854775807 := by unfold maxLen at hs; omega
  clear hb1 hi htab hw1 hm hz hnx hl hs ht hx h1
  go_enter Tryz.func6, Tryz.ntmps6
  go_wp2_with fail
  rw [HW.out]
  refine HF.out.mono ?_
  rintro e w2 ⟨rfl, hb⟩
  have HD2 := Lib.hid hb
  clear hb HF
  cases hf : fewB l with
  | false =>
    clear hf
    go_wp2_with fail
    refine (HAL.out _ HD2.out).mono ?_
    rintro e wz ⟨rfl, hb⟩
    have HZZ := Lib.hid (seqB HB1.out (seqB HD2.out hb))
    clear hb
    go_wp2_with fail
    go_ret
    exact ⟨rfl, HZZ.out⟩
  | true =>
    obtain ⟨hlean, h12⟩ := few_lean hf HZ.out
    rw [HL.out] at h12
    have HLN := Lib.hid hlean
    obtain ⟨x0, x1, x2, x3, x4, x5, x6, x7, x8, x9, x10⟩ := HOB.out _ HD2.out
    clear hf hlean
    go_wp2_with fail
    refine (HK.out w2).mono ?_
    rintro e w3 ⟨bk, rfl, hk, hb⟩
    have HD3 := Lib.hid (seqB HD2.out hb)
    have HKK := Lib.hid hk
    clear hb hk HD2 x0 x1 x2 x3 x4 x5 x6 x7 x8 x9 x10
    cases bk with
    | false =>
      go_wp2_with fail
      refine (HAL.out _ HD3.out).mono ?_
      rintro e wz ⟨rfl, hb⟩
      have HZZ := Lib.hid (seqB HB1.out (seqB HD3.out hb))
      clear hb
      go_wp2_with fail
      go_ret
      exact ⟨rfl, HZZ.out⟩
    | true =>
      have HFT := Lib.hid (HKK.out.1 rfl)
      have HR := Lib.hid (rright_any p n d l w3 HL.out (by omega) HLN.out (prxs_on HI.out HD3.out))
      clear HKK
      go_wp2_with fail
      refine HR.out.mono ?_
      rintro e w4 ⟨rfl, hb⟩
      have HD4 := Lib.hid (seqB HD3.out hb)
      clear hb HR HD3
      cases hrb : rightB l with
      | false =>
        clear hrb
        go_wp2_with fail
        refine (HAL.out _ HD4.out).mono ?_
        rintro e wz ⟨rfl, hb⟩
        have HZZ := Lib.hid (seqB HB1.out (seqB HD4.out hb))
        clear hb
        go_wp2_with fail
        go_ret
        exact ⟨rfl, HZZ.out⟩
      | true =>
        have HRT := Lib.hid (right_true.1 hrb)
        clear hrb
        obtain ⟨x0, x1, x2, x3, x4, x5, x6, x7, x8, x9, x10⟩ := HOB.out _ HD4.out
        by_cases h6 : O.kind = 6
        · have k6 : decide (O.kind = 6) = true := decide_eq_true h6
          go_wp2_with fail
          refine (HAL.out _ HD4.out).mono ?_
          rintro e wz ⟨rfl, hb⟩
          have HZZ := Lib.hid (seqB HB1.out (seqB HD4.out hb))
          clear hb
          go_wp2_with fail
          go_ret
          exact ⟨rfl, HZZ.out⟩
        · have k6 : decide (O.kind = 6) = false := decide_eq_false h6
          have HDO := Lib.hid (does_any p n d l O w4 HFT.out HL.out (by omega) HLN.out (prxs_on HI.out HD4.out))
          unfold nopV at HDO
          have HTH := Lib.hid (fun (x : Prx) (hx : x ∈ l) (hn : x.s ≠ O.s) => one_there HRT.out h6 hx hn)
          have HLE := Lib.hid (show (Nm.doP l O).1.length ≤ l.length + 1 ∧ l.length ≤ (Nm.doP l O).1.length + 1 from by rw [doP_yes HRT.out]; exact Nm.do_length)
          have HRA := Lib.hid (Nm.doP_right l O)
          generalize (Nm.doP l O).2 = ER at *
          generalize (Nm.doP l O).1 = L at *
          clear HFT
          go_wp2_with fail
          refine HDO.out.mono ?_
          rintro e w5 ⟨q, m, c, rfl, hp, hb⟩
          have HD5 := Lib.hid (seqB HD4.out hb)
          have HP := Lib.hid hp
          have hm8 : m ≤ 8 := by rw [← hp.len]; exact HRA.out.few
          clear hb hp HDO HD4 x0 x1 x2 x3 x4 x5 x6 x7 x8 x9 x10
          have hle := HLE.out
          rw [HP.out.len, HL.out] at hle
          obtain ⟨hle1, hle2⟩ := hle
          go_wp2_with fail
          go_loopw [8, 9, 37] (fun _ _ i wr => ∃ k : Nat, k ≤ n ∧ i = .int .i64 k ∧ Hid (Below w5.heap.size w5 wr)) (fun _ _ i _ => n - (intOf i).toNat)
          case atStart => exact ⟨0, by omega, rfl, Lib.hid (Below.refl _ _)⟩
          case round =>
            obtain ⟨k, hk, rfl, HB⟩ := hrel
            by_cases hlt : k < n
            · obtain ⟨b, o, rfl, hc⟩ := prxs_on HI.out (seqB HD5.out HB.out) (by omega)
              obtain ⟨e0, e1, e2, q1, m1, d1, e3, em, el, et⟩ := hc k hlt
              rw [← Nat.add_assoc] at e1 e2 e3
              have hkl : k < l.length := by rw [HL.out]; exact hlt
              have hmem : l.getD k noPrx ∈ l := by rw [getD_at _ _ hkl]; exact List.getElem_mem _
              have HXT := Lib.hid (HTH.out _ hmem)
              have HX8 := Lib.hid ((right_lean HRT.out).1 _ hmem)
              generalize l.getD k noPrx = x at *
              obtain ⟨xs, xon, xm, xt⟩ := x
              simp only at e0 e1 e2 em el et HXT HX8
              have hx63 : xs.size ≤ 9223372036854775807 := by have := HX8.out.1; unfold maxLen at this; omega
              have hal : Below wr.heap.size wr (wr.alloc (.cells #[.string xs, .bool xon, .int .i64 xm, .slice q1 m1 d1] TP)) := (Below.refl _ _).alloc (Nat.le_refl _) _
              have hnew := heap_alloc_new wr (.cells #[.string xs, .bool xon, .int .i64 xm, .slice q1 m1 d1] TP)
              obtain ⟨wB, hwB⟩ : ∃ wB, wr.alloc (.cells #[.string xs, .bool xon, .int .i64 xm, .slice q1 m1 d1] TP) = wB := ⟨_, rfl⟩
              rw [hwB] at hal hnew
              have HBB := Lib.hid (seqB HB.out hal)
              have HDB := Lib.hid (seqB HD5.out HBB.out)
              have HRF := Lib.hid (rFind_any q m c L xs wB HP.out.len (by omega) (prxs_on HP.out.prx HBB.out))
              have HBX := Lib.hid (fun W (hW : Below wB.heap.size wB W) => (hW.block _ (gc.blk_lt hnew)).trans hnew)
              have HET := Lib.hid (toxs_on et hal)
              have HWB := Lib.hid hwB
              have HQ := Lib.hid (show ∀ W, Below wB.heap.size wB W → W.cell? ⟨wr.heap.size, 0, none⟩ = some (.string xs) ∧ W.cell? ⟨wr.heap.size, 1, none⟩ = some (.bool xon) ∧ W.cell? ⟨wr.heap.size, 2, none⟩ = some (.int .i64 xm) ∧ W.cell? ⟨wr.heap.size, 3, none⟩ = some (.slice q1 m1 d1) ∧ W.cell? ⟨w.heap.size, 2, none⟩ = some (.string O.s) ∧ Hid (Below wB.heap.size wB W) from fun W hW => by
                have h := HBX.out W hW
                exact ⟨cell_of_row _ _ 0 _ _ _ h, cell_of_row _ _ 1 _ _ _ h, cell_of_row _ _ 2 _ _ _ h, cell_of_row _ _ 3 _ _ _ h, (HOB.out W (seqB HDB.out hW)).2.2.1, Lib.hid hW⟩)
              clear hwB hal hnew hc et hmem hkl
              by_cases hxo : xs = O.s
              · subst hxo
                clear HXT HX8 HET HBX
                generalize orNone (Nm.fP L O.s) m = V at HRF
                go_wp2_with fail
                rw [HWB.out]
                refine HRF.out.mono ?_
                rintro e w6 ⟨rfl, rfl⟩
                clear HRF
                go_wp2_with fail
                refine wp_region_held_drew (S := fun W => W.cell? ⟨wr.heap.size, 0, none⟩ = some (.string O.s) ∧ W.cell? ⟨wr.heap.size, 1, none⟩ = some (.bool xon) ∧ W.cell? ⟨wr.heap.size, 2, none⟩ = some (.int .i64 xm) ∧ W.cell? ⟨wr.heap.size, 3, none⟩ = some (.slice q1 m1 d1) ∧ W.cell? ⟨w.heap.size, 2, none⟩ = some (.string O.s) ∧ Hid (Below wB.heap.size wB W)) (by kernel_rfl) (HQ.out _ (Below.refl _ _).drew) (fun hHeld => ?_)
                refine takeH (some 45) (i := 0) (v := ?v1) rfl rfl (by kernel_rfl) (by kernel_rfl) (by kernel_rfl) (fun _ _ _ h => h) (Or.inl ⟨by kernel_rfl, ?hy1⟩) (by assumption) ?rest1
                case hy1 => (intro w hSw; (try dsimp only at hSw); go_simp <;> with_reducible rfl)
                case rest1 =>
                simp only [Act.put, List.setIfInBounds_toArray, List.set_cons_zero, List.set_cons_succ]
                refine takeH (some 46) (i := 1) (v := ?v2) rfl rfl (by kernel_rfl) (by kernel_rfl) (by kernel_rfl) (fun _ _ _ h => h) (Or.inl ⟨by kernel_rfl, ?hy2⟩) (by assumption) ?rest2
                case hy2 => (intro w hSw; (try dsimp only at hSw); go_simp <;> with_reducible rfl)
                case rest2 =>
                simp only [Act.put, List.setIfInBounds_toArray, List.set_cons_zero, List.set_cons_succ]
                refine takeH (some 47) (i := 2) (v := ?v3) rfl rfl (by kernel_rfl) (by kernel_rfl) (by kernel_rfl) (fun _ _ _ h => h) (Or.inl ⟨by kernel_rfl, ?hy3⟩) (by assumption) ?rest3
                case hy3 => (intro w hSw; (try dsimp only at hSw); go_simp <;> with_reducible rfl)
                case rest3 =>
                simp only [Act.put, List.setIfInBounds_toArray, List.set_cons_zero, List.set_cons_succ]
                refine takeH (some 48) (i := 3) (v := ?v4) rfl rfl (by kernel_rfl) (by kernel_rfl) (by kernel_rfl) (fun _ _ _ h => h) (Or.inl ⟨by kernel_rfl, ?hy4⟩) (by assumption) ?rest4
                case hy4 => (intro w hSw; (try dsimp only at hSw); go_simp <;> with_reducible rfl)
                case rest4 =>
                simp only [Act.put, List.setIfInBounds_toArray, List.set_cons_zero, List.set_cons_succ]
                refine takeH (some 49) (i := 4) (v := ?v5) rfl rfl (by kernel_rfl) (by kernel_rfl) (by kernel_rfl) (fun _ _ _ h => h) (Or.inl ⟨by kernel_rfl, ?hy5⟩) (by assumption) ?rest5
                case hy5 => (intro w hSw; (try dsimp only at hSw); go_simp <;> with_reducible rfl)
                case rest5 =>
                simp only [Act.put, List.setIfInBounds_toArray, List.set_cons_zero, List.set_cons_succ]
                refine takeH (some 50) (i := 5) (v := ?v6) rfl rfl (by kernel_rfl) (by kernel_rfl) (by kernel_rfl) (fun _ _ _ h => h) (Or.inl ⟨by kernel_rfl, ?hy6⟩) (by assumption) ?rest6
                case hy6 => (intro w hSw; (try dsimp only at hSw); go_simp <;> with_reducible rfl)
                case rest6 =>
                simp only [Act.put, List.setIfInBounds_toArray, List.set_cons_zero, List.set_cons_succ]
                refine takeH (some 51) (i := 6) (v := undef) rfl rfl (by kernel_rfl) (by kernel_rfl) (by kernel_rfl) (fun _ _ _ h => h) (Or.inr ⟨by kernel_rfl, rfl⟩) (by assumption) ?_
                simp only [Act.put, List.setIfInBounds_toArray, List.set_cons_zero, List.set_cons_succ]
                refine takeH (some 52) (i := 7) (v := undef) rfl rfl (by kernel_rfl) (by kernel_rfl) (by kernel_rfl) (fun _ _ _ h => h) (Or.inr ⟨by kernel_rfl, rfl⟩) (by assumption) ?_
                simp only [Act.put, List.setIfInBounds_toArray, List.set_cons_zero, List.set_cons_succ]
                refine takeH (some 53) (i := 8) (v := undef) rfl rfl (by kernel_rfl) (by kernel_rfl) (by kernel_rfl) (fun _ _ _ h => h) (Or.inr ⟨by kernel_rfl, rfl⟩) (by assumption) ?_
                simp only [Act.put, List.setIfInBounds_toArray, List.set_cons_zero, List.set_cons_succ]
                refine takeH (some 54) (i := 9) (v := undef) rfl rfl (by kernel_rfl) (by kernel_rfl) (by kernel_rfl) (fun _ _ _ h => h) (Or.inr ⟨by kernel_rfl, rfl⟩) (by assumption) ?_
                simp only [Act.put, List.setIfInBounds_toArray, List.set_cons_zero, List.set_cons_succ]
                refine takeH (some 55) (i := 10) (v := undef) rfl rfl (by kernel_rfl) (by kernel_rfl) (by kernel_rfl) (fun _ _ _ h => h) (Or.inr ⟨by kernel_rfl, rfl⟩) (by assumption) ?_
                simp only [Act.put, List.setIfInBounds_toArray, List.set_cons_zero, List.set_cons_succ]
                refine takeH (some 56) (i := 11) (v := undef) rfl rfl (by kernel_rfl) (by kernel_rfl) (by kernel_rfl) (fun _ _ _ h => h) (Or.inr ⟨by kernel_rfl, rfl⟩) (by assumption) ?_
                simp only [Act.put, List.setIfInBounds_toArray, List.set_cons_zero, List.set_cons_succ]
                refine takeH (some 57) (i := 12) (v := undef) rfl rfl (by kernel_rfl) (by kernel_rfl) (by kernel_rfl) (fun _ _ _ h => h) (Or.inr ⟨by kernel_rfl, rfl⟩) (by assumption) ?_
                simp only [Act.put, List.setIfInBounds_toArray, List.set_cons_zero, List.set_cons_succ]
                refine takeH (some 58) (i := 13) (v := undef) rfl rfl (by kernel_rfl) (by kernel_rfl) (by kernel_rfl) (fun _ _ _ h => h) (Or.inr ⟨by kernel_rfl, rfl⟩) (by assumption) ?_
                simp only [Act.put, List.setIfInBounds_toArray, List.set_cons_zero, List.set_cons_succ]
                refine takeH (some 59) (i := 14) (v := undef) rfl rfl (by kernel_rfl) (by kernel_rfl) (by kernel_rfl) (fun _ _ _ h => h) (Or.inr ⟨by kernel_rfl, rfl⟩) (by assumption) ?_
                simp only [Act.put, List.setIfInBounds_toArray, List.set_cons_zero, List.set_cons_succ]
                refine takeH (some 60) (i := 15) (v := undef) rfl rfl (by kernel_rfl) (by kernel_rfl) (by kernel_rfl) (fun _ _ _ h => h) (Or.inr ⟨by kernel_rfl, rfl⟩) (by assumption) ?_
                simp only [Act.put, List.setIfInBounds_toArray, List.set_cons_zero, List.set_cons_succ]
                refine takeH (some 61) (i := 16) (v := undef) rfl rfl (by kernel_rfl) (by kernel_rfl) (by kernel_rfl) (fun _ _ _ h => h) (Or.inr ⟨by kernel_rfl, rfl⟩) (by assumption) ?_
                simp only [Act.put, List.setIfInBounds_toArray, List.set_cons_zero, List.set_cons_succ]
                refine takeH (some 62) (i := 17) (v := undef) rfl rfl (by kernel_rfl) (by kernel_rfl) (by kernel_rfl) (fun _ _ _ h => h) (Or.inr ⟨by kernel_rfl, rfl⟩) (by assumption) ?_
                simp only [Act.put, List.setIfInBounds_toArray, List.set_cons_zero, List.set_cons_succ]
                refine takeH (some 63) (i := 18) (v := undef) rfl rfl (by kernel_rfl) (by kernel_rfl) (by kernel_rfl) (fun _ _ _ h => h) (Or.inr ⟨by kernel_rfl, rfl⟩) (by assumption) ?_
                simp only [Act.put, List.setIfInBounds_toArray, List.set_cons_zero, List.set_cons_succ]
                refine takeH (some 64) (i := 19) (v := ?v7) rfl rfl (by kernel_rfl) (by kernel_rfl) (by kernel_rfl) (fun _ _ _ h => h) (Or.inl ⟨by kernel_rfl, ?hy7⟩) (by assumption) ?rest7
                case hy7 => (intro w hSw; (try dsimp only at hSw); go_simp <;> with_reducible rfl)
                case rest7 =>
                simp only [Act.put, List.setIfInBounds_toArray, List.set_cons_zero, List.set_cons_succ]
                refine wpAnyH_done (by kernel_rfl) ?_ _
                have HDZ := Lib.hid (seqB HBB.out hHeld.2.2.2.2.2.out)
                clear hHeld HQ HBB HDB HB
                go_wp2_with fail
                go_roundw
                case rel => exact ⟨k + 1, by omega, by go_num, HDZ⟩
                case measure => simp [intOf]; omega
              · obtain ⟨hK, hKx⟩ := HXT.out hxo
                rw [HP.out.len] at hK
                have e1 : orNone (Nm.fP L xs) m = (Nm.fP L xs : Int) := if_pos hK
                rw [e1] at HRF
                generalize Nm.fP L xs = K at *
                have hcap : m ≤ c := HP.out.cap
                obtain ⟨bq, oq, rfl, _⟩ := HP.out.prx (by omega)
                have HPK := Lib.hid (show ∀ W, Below wB.heap.size wB W → PrxIn W (some ⟨bq, oq + K * 4, none⟩) 1 [⟨xs, xon, xm, xt⟩] from fun W hW => by
                  have h := part_prx (K := K) (prxs_on HP.out.prx (seqB HBB.out hW)) hK
                  rwa [hKx] at h)
                have hne : (xs.toList == O.s.toList) = false := by simpa using fun e => hxo (Nm.list_inj e)
                have hne2 : (xs.toList != O.s.toList) = true := by rw [bne, hne]; rfl
                have hm9 : xt.length ≤ 1000000 := HX8.out.2.1
                have hk0 : (0 : Int) ≤ (K : Int) := by omega
                have hk00 : decide ((K : Int) < 0) = false := decide_eq_false (by omega)
                have hk1 : (K : Int) ≤ (K : Int) + 1 := by omega
                have hk2 : (K : Int) + 1 ≤ (c : Int) := by omega
                have hkw : IntKind.i64.wrap ((K : Int) + 1) = (K : Int) + 1 := wrapN_id (by omega) (by omega)
                have hkt : ((K : Int) + 1).toNat = K + 1 := by omega
                have hkd : ¬ (c = K) := by omega
                have hk11 : K + 1 - K = 1 := by omega
                have HSO := Lib.hid (show Calls Tryz.prog 14 #[.slice (some ⟨bq, oq + K * 4, none⟩) 1 (c - K), .slice (some ⟨wB.heap.size, 0, none⟩) 1 1] (wB.alloc (.cells #[.string xs, .bool xon, .int .i64 xm, .slice q1 m1 d1] TP)).drew fun e w' => e = .returned (.bool true) ∧ Below (wB.alloc (.cells #[.string xs, .bool xon, .int .i64 xm, .slice q1 m1 d1] TP)).drew.heap.size (wB.alloc (.cells #[.string xs, .bool xon, .int .i64 xm, .slice q1 m1 d1] TP)).drew w' from by
                  have hal : Below wB.heap.size wB (wB.alloc (.cells #[.string xs, .bool xon, .int .i64 xm, .slice q1 m1 d1] TP)).drew := ((Below.refl _ _).alloc (Nat.le_refl _) _).drew
                  have h := rsame_any (some ⟨bq, oq + K * 4, none⟩) (some ⟨wB.heap.size, 0, none⟩) 1 1 (c - K) 1 [⟨xs, xon, xm, xt⟩] [⟨xs, xon, xm, xt⟩] (wB.alloc (.cells #[.string xs, .bool xon, .int .i64 xm, .slice q1 m1 d1] TP)).drew rfl rfl (by decide) (by decide) (few_one hm9) (few_one hm9) (HPK.out _ hal) (one_prx (heap_alloc_new _ _) el em (toxs_on HET.out hal))
                  rwa [decide_eq_true rfl] at h)
                clear HPK HXT HX8 HET HBX hm9 hKx e1 hcap el
                go_wp2_with fail
                rw [HWB.out]
                refine HRF.out.mono ?_
                rintro e w6 ⟨rfl, rfl⟩
                clear HRF
                go_wp2_with fail
                go_region_held (fun W => W.cell? ⟨wr.heap.size, 0, none⟩ = some (.string xs) ∧ W.cell? ⟨wr.heap.size, 1, none⟩ = some (.bool xon) ∧ W.cell? ⟨wr.heap.size, 2, none⟩ = some (.int .i64 xm) ∧ W.cell? ⟨wr.heap.size, 3, none⟩ = some (.slice q1 m1 d1) ∧ W.cell? ⟨w.heap.size, 2, none⟩ = some (.string O.s) ∧ Hid (Below wB.heap.size wB W))
                  (first
                    | exact HQ.out _ (Below.refl _ _).drew
                    | with_reducible assumption
                    | exact HQ.out _ ((Below.refl _ _).alloc (Nat.le_refl _) _).drew)
                  (first
                    | (go_at_call 14; (with_reducible refine Calls.mono HSO.out ?_); rintro e w9 ⟨rfl, hb⟩; (have hS := HQ.out _ (seqB ((Below.refl _ _).alloc (Nat.le_refl _) _).drew hb)); clear hb))
                have HDZ := Lib.hid (seqB HBB.out hS.2.2.2.2.2.out)
                clear hS HQ HBB HDB HB HSO
                go_wp2_with fail
                go_roundw
                case rel => exact ⟨k + 1, by omega, by go_num, HDZ⟩
                case measure => simp [intOf]; omega
            · obtain rfl : k = n := by omega
              have HD6 := Lib.hid (seqB HD5.out HB.out)
              have HA1 := Lib.hid (HAL.out _ HD6.out)
              have g1 : decide ((m : Int) ≤ (k : Int) + 1) = true := decide_eq_true (by omega)
              have g2 : decide ((k : Int) ≤ (m : Int) + 1) = true := decide_eq_true (by omega)
              have g3 : IntKind.i64.wrap ((m : Int) + 1) = (m : Int) + 1 := wrapN_id (by omega) (by omega)
              have g4 : IntKind.i64.wrap ((k : Int) + 1) = (k : Int) + 1 := wrapN_id (by omega) (by omega)
              go_wp2_with fail
              refine HA1.out.mono ?_
              rintro e wz ⟨rfl, hb⟩
              have HZZ := Lib.hid (seqB HB1.out (seqB HD6.out hb))
              clear hb
              go_wp2_with fail
              go_ret
              exact ⟨rfl, HZZ.out⟩
end Go.Proofs.YtmghkcjljnlocaaGreatDoor

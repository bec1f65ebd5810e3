/-
  Contracts of Reset, kind, does; a call that came in; 'chicanelaw14.NamesOwn' returns true. Conditions: as each states.
-/
import Derived.Test.YtmghkcjljnlocaaGreatDoorQA
import Derived.Test.YtmghkcjljnlocaaGreatDoorPR
import Derived.Test.YtmghkcjljnlocaaGreatDoorR2
namespace Go.Proofs.YtmghkcjljnlocaaGreatDoor
open Go.RowKit
def reset1 (p : Prx) : Prx := ⟨p.s, true, p.most, []⟩
/-- A list of the call's own is told. -/
def OutL (l' : List Prx) (w : World) (e : Ending) (w' : World) : Prop := ∃ q n c, e = .returned (.slice q n c) ∧ POwn w' w.heap.size q n c l' ∧ Below w.heap.size w w'
set_option maxRecDepth 100000 in
set_option maxHeartbeats 8000000 in
theorem reset_any (p : Option Addr) (n d : Nat) (l : List Prx) (O : NOp) (w : World) (hkd : O.kind = 6) (hl : l.length = n) (hn : n ≤ 1000000) (hz : Lean14 l) (hi : PrxIn w p n l) :
    Calls Tryz.prog 30 #[.slice p n d] w fun e w' => OutL (Nm.doP l O).1 w e w' ∧ (Nm.doP l O).2 = 0 := by
  have hR := right_any p n d l w hl hn hz hi
  by_cases hr : Nm.Right l
  · rw [right_yes hr] at hR
    have h8 : n ≤ 8 := by rw [← hl]; exact hr.few
    have hdo : Nm.doP l O = (l.map reset1, 0) := by
      rw [doP_yes hr]
      unfold Nm.doR
      rw [if_neg (by omega), if_pos hkd]
      rfl
    rw [hdo]
    have HR := Lib.hid hR
    have HI := Lib.hid hi
    have HL := Lib.hid hl
    clear hR hi hl hr hdo hz
    go_enter Tryz.func30, Tryz.ntmps30
    go_wp2_with fail
    refine HR.out.mono ?_
    rintro e w1 ⟨rfl, hb⟩
    have HB1 := Lib.hid hb
    clear hb HR
    go_wp2_with fail
    go_loopw [3, 5, 11] (fun x y i wr => ∃ k : Nat, k ≤ n ∧ i = .int .i64 k ∧ ∃ q c, x = .slice q k c ∧ Hid (POwn wr w.heap.size q k c ((l.take k).map reset1)) ∧ Hid (Below w.heap.size w wr)) (fun _ _ i _ => n - (intOf i).toNat)
    case atStart => exact ⟨0, by omega, rfl, none, 0, rfl, Lib.hid (pown_nil w1 w.heap.size), HB1⟩
    case round =>
      clear HB1
      obtain ⟨k, hk, rfl, q, c, rfl, HO, HB⟩ := hrel
      by_cases hlt : k < n
      · obtain ⟨b, o, rfl, hcell⟩ := prxs_on HI.out HB.out (by omega)
        obtain ⟨c0, c1, c2, qt, mt, dt, c3, hmd, hlt2, htx⟩ := hcell k hlt
        rw [← Nat.add_assoc] at c1 c2 c3
        have hkl : k < l.length := by rw [HL.out]; exact hlt
        have hg : l.getD k noPrx = l[k] := getD_at _ _ hkl
        have HT := Lib.hid (show (l.take (k + 1)).map reset1 = (l.take k).map reset1 ++ [reset1 (l.getD k noPrx)] from by rw [hg, List.take_succ_eq_append_getElem hkl, List.map_append]; rfl)
        generalize l.getD k noPrx = x at *
        obtain ⟨xs, xon, xm, xt⟩ := x
        simp only at c0 c1 c2 hlt2 htx
        have hal0 : Below wr.heap.size wr (wr.alloc (.cells #[.string xs, .bool xon, .int .i64 xm, .slice qt mt dt] TP)) := (Below.refl _ _).alloc (Nat.le_refl _) _
        obtain ⟨zs, hz1, hz2, hdis⟩ := HO.out
        have hal : Below wr.heap.size wr ((wr.alloc (.cells #[.string xs, .bool xon, .int .i64 xm, .slice qt mt dt] TP)).alloc (.cells #[.string xs, .bool true, .int .i64 xm, .slice none 0 0] TP)) := seqB hal0 ((Below.refl _ _).alloc (Nat.le_refl _) _)
        have hs0 : (wr.alloc (.cells #[.string xs, .bool xon, .int .i64 xm, .slice qt mt dt] TP)).heap.size = wr.heap.size + 1 := World.size_alloc _ _
        have hnew := heap_alloc_new (wr.alloc (.cells #[.string xs, .bool xon, .int .i64 xm, .slice qt mt dt] TP)) (.cells #[.string xs, .bool true, .int .i64 xm, .slice none 0 0] TP)
        rw [hs0] at hnew
        obtain ⟨q3, c3', w3, r1, r2, r3⟩ := PRow.app (hz2.on hal) (Nat.le_trans HB.out.size hal.size) (by omega) (a := ⟨wr.heap.size + 1, 0, none⟩) (d := 1) ⟨⟨xs, true, xm, []⟩, none, 0, 0⟩ (gc.orow_nil _ _ _ _) (fun j u hj => by
          rw [WideShapes.add_plain]
          simp only [World.cell?, hnew]
          rw [Nat.zero_add]
          simpa [RP.cells] using hj)
        have HR := Lib.hid r1
        have HO3 := Lib.hid (show POwn w3 w.heap.size q3 (k + 1) c3' ((l.take (k + 1)).map reset1) from ⟨zs ++ [⟨⟨xs, true, xm, []⟩, none, 0, 0⟩], by rw [List.map_append, hz1, HT.out]; rfl, r2, dis_app hdis fun y hy a a' e e' => by cases e'⟩)
        have HB3 := Lib.hid ((HB.out.trans (hal.mono HB.out.size)).trans r3)
        clear r1 r2 r3 hz1 hz2 hdis hal hal0 hnew hs0 HT HO hcell hkl hg htx hlt2
        go_wp2_with (at_builtin; refine Lib.wpList_append_run _ rfl _ _ _ _ rfl (.slice q k c) (.slice (some ⟨wr.heap.size + 1, 0, none⟩) 1 1) rfl rfl _ _ (HR.out _) ?_)
        go_roundw
        case rel => exact ⟨k + 1, by omega, by go_num, q3, c3', rfl, HO3, HB3⟩
        case measure => simp [intOf]; omega
      · obtain rfl : k = n := by omega
        have HE := Lib.hid (show l.take k = l from List.take_of_length_le (by rw [HL.out]; exact Nat.le_refl _))
        go_wp2_with fail
        go_ret
        exact ⟨⟨q, k, c, rfl, by have h := HO.out; rwa [HE.out] at h, HB.out⟩, by first | rfl | trivial⟩
  · rw [right_no hr] at hR
    have HR := Lib.hid hR
    rw [doP_no hr, if_pos hkd]
    clear hR hi hz hr hl
    go_enter Tryz.func30, Tryz.ntmps30
    go_wp2_with fail
    refine HR.out.mono ?_
    rintro e w1 ⟨rfl, hb⟩
    have HB := Lib.hid hb
    clear hb HR
    go_wp2_with fail
    go_ret
    exact ⟨⟨none, 0, 0, rfl, pown_nil _ _, HB.out⟩, by first | rfl | trivial⟩
def nopV (o : NOp) : Value := .agg #[.int .i64 o.kind, .int .i64 o.n, .string o.s, .string o.x, .bool o.on, .string o.t.s, .int .i64 o.t.k, .bool o.t.up, .int .i64 o.t.o, .int .i64 o.t.a, .int .i64 o.t.b]
def nopC (o : NOp) : Obj := .cells #[.int .i64 o.kind, .int .i64 o.n, .string o.s, .string o.x, .bool o.on, .string o.t.s, .int .i64 o.t.k, .bool o.t.up, .int .i64 o.t.o, .int .i64 o.t.a, .int .i64 o.t.b] 26
structure NOp.Fit (o : NOp) : Prop where
  lo : 0 ≤ o.kind
  hi : o.kind ≤ 6
  s : o.s.size ≤ 100
  t : o.t.s.size ≤ 100
  x : o.x.size ≤ 100
theorem nop_at {W : World} {o : NOp} {B : Nat} (h : W.heap[B]? = some (nopC o)) : W.cell? ⟨B, 0, none⟩ = some (.int .i64 o.kind) ∧ W.cell? ⟨B, 1, none⟩ = some (.int .i64 o.n) ∧ W.cell? ⟨B, 2, none⟩ = some (.string o.s) ∧ W.cell? ⟨B, 3, none⟩ = some (.string o.x) ∧ W.cell? ⟨B, 4, none⟩ = some (.bool o.on) ∧
    W.cell? ⟨B, 5, none⟩ = some (.string o.t.s) ∧ W.cell? ⟨B, 6, none⟩ = some (.int .i64 o.t.k) ∧ W.cell? ⟨B, 7, none⟩ = some (.bool o.t.up) ∧ W.cell? ⟨B, 8, none⟩ = some (.int .i64 o.t.o) ∧ W.cell? ⟨B, 9, none⟩ = some (.int .i64 o.t.a) ∧ W.cell? ⟨B, 10, none⟩ = some (.int .i64 o.t.b) := by
  simp [World.cell?, h, nopC]
/-- What kind tells. -/
def OutKd (F : Prop) (w : World) (e : Ending) (w' : World) : Prop := ∃ b, e = .returned (.bool b) ∧ (b = true ↔ F) ∧ Below w.heap.size w w'
set_option maxRecDepth 100000 in
set_option maxHeartbeats 8000000 in
theorem kind_any (o : NOp) (w : World) (hs : o.s.size ≤ maxLen) (ht : o.t.s.size ≤ maxLen) (hx : o.x.size ≤ maxLen) :
    Calls Tryz.prog 10 #[nopV o] w (OutKd o.Fit w) := by
  have HB := Lib.hid (show Below w.heap.size w (w.alloc (nopC o)) from (Below.refl _ _).alloc (Nat.le_refl _) _)
  have HF := Lib.hid (show o.Fit ↔ (0 ≤ o.kind ∧ o.kind ≤ 6 ∧ o.s.size ≤ 100 ∧ o.t.s.size ≤ 100 ∧ o.x.size ≤ 100) from ⟨fun h => ⟨h.1, h.2, h.3, h.4, h.5⟩, fun h => ⟨h.1, h.2.1, h.2.2.1, h.2.2.2.1, h.2.2.2.2⟩⟩)
  generalize o.Fit = F at HF
  obtain ⟨kd, n, s, x, on, ⟨ts, tk, tu, t2, ta, tb⟩⟩ := o
  unfold nopV
  unfold nopC at HB
  dsimp only at hs ht hx HF HB ⊢
  unfold maxLen at hs ht hx
  go_enter Tryz.func10, Tryz.ntmps10
  by_cases h1 : 0 ≤ kd
  · have k1 : decide ((0 : Int) ≤ kd) = true := decide_eq_true h1
    by_cases h2 : kd ≤ 6
    · have k2 : decide (kd ≤ (6 : Int)) = true := decide_eq_true h2
      by_cases h3 : s.size ≤ 100
      · have k3 : decide ((s.size : Int) ≤ 100) = true := decide_eq_true (by omega)
        by_cases h4 : ts.size ≤ 100
        · have k4 : decide ((ts.size : Int) ≤ 100) = true := decide_eq_true (by omega)
          by_cases h5 : x.size ≤ 100
          · have k5 : decide ((x.size : Int) ≤ 100) = true := decide_eq_true (by omega)
            go_wp2_with fail
            go_ret
            exact ⟨true, rfl, ⟨fun _ => HF.out.2 ⟨h1, h2, h3, h4, h5⟩, fun _ => rfl⟩, HB.out⟩
          · have k5 : decide ((x.size : Int) ≤ 100) = false := decide_eq_false (by omega)
            go_wp2_with fail
            go_ret
            exact ⟨false, rfl, ⟨fun h => (by cases h), fun h => absurd (HF.out.1 h).2.2.2.2 h5⟩, HB.out⟩
        · have k4 : decide ((ts.size : Int) ≤ 100) = false := decide_eq_false (by omega)
          go_wp2_with fail
          go_ret
          exact ⟨false, rfl, ⟨fun h => (by cases h), fun h => absurd (HF.out.1 h).2.2.2.1 h4⟩, HB.out⟩
      · have k3 : decide ((s.size : Int) ≤ 100) = false := decide_eq_false (by omega)
        go_wp2_with fail
        go_ret
        exact ⟨false, rfl, ⟨fun h => (by cases h), fun h => absurd (HF.out.1 h).2.2.1 h3⟩, HB.out⟩
    · have k2 : decide (kd ≤ (6 : Int)) = false := decide_eq_false (by omega)
      go_wp2_with fail
      go_ret
      exact ⟨false, rfl, ⟨fun h => (by cases h), fun h => absurd (HF.out.1 h).2.1 (by omega)⟩, HB.out⟩
  · have k1 : decide ((0 : Int) ≤ kd) = false := decide_eq_false (by omega)
    go_wp2_with fail
    go_ret
    exact ⟨false, rfl, ⟨fun h => (by cases h), fun h => absurd (HF.out.1 h).1 (by omega)⟩, HB.out⟩
set_option maxRecDepth 100000 in
set_option maxHeartbeats 16000000 in
theorem does_any (p : Option Addr) (n d : Nat) (l : List Prx) (O : NOp) (w : World) (hf : O.Fit) (hl : l.length = n) (hn : n ≤ 1000000) (hz : Lean14 l) (hi : PrxIn w p n l) :
    Calls Tryz.prog 12 #[.slice p n d, nopV O] w (OutDo (Nm.doP l O).1 (Nm.doP l O).2 w) := by
  have hc : O.kind = 0 ∨ O.kind = 1 ∨ O.kind = 2 ∨ O.kind = 3 ∨ O.kind = 4 ∨ O.kind = 5 ∨ O.kind = 6 := by
    have := hf.lo
    have := hf.hi
    omega
  obtain ⟨w1, hw1⟩ : ∃ w1, w.alloc (nopC O) = w1 := ⟨_, rfl⟩
  have hb1 : Below w.heap.size w w1 := by rw [← hw1]; exact (Below.refl _ _).alloc (Nat.le_refl _) _
  have h1 : w1.heap[w.heap.size]? = some (nopC O) := by rw [← hw1]; exact heap_alloc_new _ _
  have hi1 := prxs_on hi hb1
  have HB := Lib.hid hb1
  rcases hc with h | h | h | h | h | h | h
  · have HX := Lib.hid (add_any p n d l O w1 h (by unfold maxLen; have := hf.s; omega) hl hn hz hi1)
    clear hl hn hz hi hf h1 hi1 hb1
    generalize Nm.doP l O = Y at HX ⊢
    obtain ⟨kd, n, s, x, on, ⟨ts, tk, tu, t2, ta, tb⟩⟩ := O
    unfold nopC at hw1
    unfold nopV
    dsimp only at hw1 HX h ⊢
    subst h
    have HW := Lib.hid hw1
    clear hw1
    go_enter Tryz.func12, Tryz.ntmps12
    go_wp2_with fail
    rw [HW.out]
    refine HX.out.mono ?_
    rintro e w2 ⟨q, m, c, rfl, hp, hb⟩
    have HP := Lib.hid (hp.low HB.out.size)
    have HB2 := Lib.hid (seqB HB.out hb)
    clear hp hb HX
    go_wp2_with fail
    go_ret2
    exact out_same HP.out HB2.out
  · have HX := Lib.hid (drop_any p n d l O w1 h  hl hn hz hi1)
    clear hl hn hz hi hf h1 hi1 hb1
    generalize Nm.doP l O = Y at HX ⊢
    obtain ⟨kd, n, s, x, on, ⟨ts, tk, tu, t2, ta, tb⟩⟩ := O
    unfold nopC at hw1
    unfold nopV
    dsimp only at hw1 HX h ⊢
    subst h
    have HW := Lib.hid hw1
    clear hw1
    go_enter Tryz.func12, Tryz.ntmps12
    go_wp2_with fail
    rw [HW.out]
    refine HX.out.mono ?_
    rintro e w2 ⟨q, m, c, rfl, hp, hb⟩
    have HP := Lib.hid (hp.low HB.out.size)
    have HB2 := Lib.hid (seqB HB.out hb)
    clear hp hb HX
    go_wp2_with fail
    go_ret2
    exact out_same HP.out HB2.out
  · have HX := Lib.hid (switch_any p n d l O w1 h  hl hn hz hi1)
    clear hl hn hz hi hf h1 hi1 hb1
    generalize Nm.doP l O = Y at HX ⊢
    obtain ⟨kd, n, s, x, on, ⟨ts, tk, tu, t2, ta, tb⟩⟩ := O
    unfold nopC at hw1
    unfold nopV
    dsimp only at hw1 HX h ⊢
    subst h
    have HW := Lib.hid hw1
    clear hw1
    go_enter Tryz.func12, Tryz.ntmps12
    go_wp2_with fail
    rw [HW.out]
    refine HX.out.mono ?_
    rintro e w2 ⟨q, m, c, rfl, hp, hb⟩
    have HP := Lib.hid (hp.low HB.out.size)
    have HB2 := Lib.hid (seqB HB.out hb)
    clear hp hb HX
    go_wp2_with fail
    go_ret2
    exact out_same HP.out HB2.out
  · have HX := Lib.hid (addToxic_any p n d l O w1 h (by unfold maxLen; have := hf.t; omega) hl hn hz hi1)
    clear hl hn hz hi hf h1 hi1 hb1
    generalize Nm.doP l O = Y at HX ⊢
    obtain ⟨kd, n, s, x, on, ⟨ts, tk, tu, t2, ta, tb⟩⟩ := O
    unfold nopC at hw1
    unfold nopV
    dsimp only at hw1 HX h ⊢
    subst h
    have HW := Lib.hid hw1
    clear hw1
    go_enter Tryz.func12, Tryz.ntmps12
    go_wp2_with fail
    rw [HW.out]
    refine HX.out.mono ?_
    rintro e w2 ⟨q, m, c, rfl, hp, hb⟩
    have HP := Lib.hid (hp.low HB.out.size)
    have HB2 := Lib.hid (seqB HB.out hb)
    clear hp hb HX
    go_wp2_with fail
    go_ret2
    exact out_same HP.out HB2.out
  · have HX := Lib.hid (dropToxic_any p n d l O w1 h  hl hn hz hi1)
    clear hl hn hz hi hf h1 hi1 hb1
    generalize Nm.doP l O = Y at HX ⊢
    obtain ⟨kd, n, s, x, on, ⟨ts, tk, tu, t2, ta, tb⟩⟩ := O
    unfold nopC at hw1
    unfold nopV
    dsimp only at hw1 HX h ⊢
    subst h
    have HW := Lib.hid hw1
    clear hw1
    go_enter Tryz.func12, Tryz.ntmps12
    go_wp2_with fail
    rw [HW.out]
    refine HX.out.mono ?_
    rintro e w2 ⟨q, m, c, rfl, hp, hb⟩
    have HP := Lib.hid (hp.low HB.out.size)
    have HB2 := Lib.hid (seqB HB.out hb)
    clear hp hb HX
    go_wp2_with fail
    go_ret2
    exact out_same HP.out HB2.out
  · have HX := Lib.hid (setToxic_any p n d l O w1 h (by unfold maxLen; have := hf.t; omega) hl hn hz hi1)
    clear hl hn hz hi hf h1 hi1 hb1
    generalize Nm.doP l O = Y at HX ⊢
    obtain ⟨kd, n, s, x, on, ⟨ts, tk, tu, t2, ta, tb⟩⟩ := O
    unfold nopC at hw1
    unfold nopV
    dsimp only at hw1 HX h ⊢
    subst h
    have HW := Lib.hid hw1
    clear hw1
    go_enter Tryz.func12, Tryz.ntmps12
    go_wp2_with fail
    rw [HW.out]
    refine HX.out.mono ?_
    rintro e w2 ⟨q, m, c, rfl, hp, hb⟩
    have HP := Lib.hid (hp.low HB.out.size)
    have HB2 := Lib.hid (seqB HB.out hb)
    clear hp hb HX
    go_wp2_with fail
    go_ret2
    exact out_same HP.out HB2.out
  · have HX := Lib.hid (reset_any p n d l O w1 h hl hn hz hi1)
    clear hl hn hz hi hf h1 hi1 hb1
    generalize Nm.doP l O = Y at HX ⊢
    obtain ⟨kd, n, s, x, on, ⟨ts, tk, tu, t2, ta, tb⟩⟩ := O
    unfold nopC at hw1
    unfold nopV
    dsimp only at hw1 HX h ⊢
    subst h
    have HW := Lib.hid hw1
    clear hw1
    go_enter Tryz.func12, Tryz.ntmps12
    go_wp2_with fail
    rw [HW.out]
    refine HX.out.mono ?_
    rintro e w2 ⟨⟨q, m, c, rfl, hp, hb⟩, hz0⟩
    have HP := Lib.hid (hp.low HB.out.size)
    have HB2 := Lib.hid (seqB HB.out hb)
    have HZ := Lib.hid hz0
    clear hp hb HX hz0
    go_wp2_with fail
    go_ret2
    rw [HZ.out]
    exact out_same HP.out HB2.out
theorem right_lean {l : List Prx} (h : Nm.Right l) : Lean14 l ∧ l.length ≤ 8 := by
  refine ⟨fun x hx => ?_, h.few⟩
  obtain ⟨h1, _, _, h4, h5, _⟩ := (Nm.chkP_iff x).1 (h.each x hx)
  have := name_small h1
  exact ⟨by unfold maxLen; omega, by omega, fun t ht => by have := tox_small (h5 t ht); unfold maxLen; omega⟩
section
open Go.ChangeShapes Go.WideShapes Go.ChangeAt
theorem cellsOp14 : Tryz.prog.cellsOf 26 = 11 := by kernel_rfl
set_option maxRecDepth 100000 in
/-- A toxic's cells, as they came in: no places. -/
theorem tox_in0 {H : Type} {enc : TypeId × Value → H} {W : World} {fuel : Nat} {c0 c1 c2 c3 c4 c5 : Value} {y : DataW H × List MemPlace}
    (hf : DataW.trod enc Tryz.prog W 0 (fun _ => true) true fuel 24 [c0, c1, c2, c3, c4, c5] = some y) :
    ∃ t : Tox, c0 = .string t.s ∧ c1 = .int .i64 t.k ∧ c2 = .bool t.up ∧ c3 = .int .i64 t.o ∧ c4 = .int .i64 t.a ∧ c5 = .int .i64 t.b ∧ t.s.size ≤ maxLen ∧ y.2 = [] := by
  obtain ⟨xs, m, hy, hx, _, hl, hi⟩ := DataW.trod_struct Tryz.underlying24 hf
  obtain ⟨y0, y1, y2, y3, y4, y5, rfl⟩ : ∃ y0 y1 y2 y3 y4 y5, xs = [y0, y1, y2, y3, y4, y5] := by
    match xs, hl with
    | [y0, y1, y2, y3, y4, y5], _ => exact ⟨y0, y1, y2, y3, y4, y5, rfl⟩
  have e0 := hi 0 _ rfl
  have e1 := hi 1 _ rfl
  have e2 := hi 2 _ rfl
  have e3 := hi 3 _ rfl
  have e4 := hi 4 _ rfl
  have e5 := hi 5 _ rfl
  simp [cellsInt, cellsStr, cellsBool] at e0 e1 e2 e3 e4 e5
  obtain ⟨x0, q0, rfl, w0⟩ := DataW.trod_string Tryz.underlying9 e0
  obtain ⟨x1, q1, rfl, w1⟩ := DataW.trod_int Tryz.underlying3 e1
  obtain ⟨x2, q2, rfl⟩ := DataW.trod_bool Tryz.underlying4 e2
  obtain ⟨x3, q3, rfl, w3⟩ := DataW.trod_int Tryz.underlying3 e3
  obtain ⟨x4, q4, rfl, w4⟩ := DataW.trod_int Tryz.underlying3 e4
  obtain ⟨x5, q5, rfl, w5⟩ := DataW.trod_int Tryz.underlying3 e5
  cases q0
  cases q1
  cases q2
  cases q3
  cases q4
  cases q5
  exact ⟨⟨x0, x1, x2, x3, x4, x5⟩, rfl, rfl, rfl, rfl, rfl, rfl, w0, by rw [hx]; simp⟩
set_option maxRecDepth 100000 in
/-- A call that came in. -/
theorem openOp {H : Type} {enc : TypeId × Value → H} {W : World} {base : Nat} {v : Value} {d : DataW H} {p : List MemPlace}
    (ho : Value.okWide Tryz.prog W .any base 26 v) (h : DataW.Trod enc Tryz.prog W 0 (fun _ => true) true 26 v d p) :
    ∃ o : NOp, v = nopV o ∧ (o.s.size ≤ maxLen ∧ o.t.s.size ≤ maxLen ∧ o.x.size ≤ maxLen) ∧ p = [] := by
  simp only [Value.okWide, Tryz.underlying26] at ho
  obtain ⟨cs, rfl, hs, _⟩ := ho
  rw [cellsOp14] at hs
  obtain ⟨l⟩ := cs
  obtain ⟨c0, c1, c2, c3, c4, c5, c6, c7, c8, c9, c10, rfl⟩ : ∃ c0 c1 c2 c3 c4 c5 c6 c7 c8 c9 c10, l = [c0, c1, c2, c3, c4, c5, c6, c7, c8, c9, c10] := by
    match l, hs with
    | [c0, c1, c2, c3, c4, c5, c6, c7, c8, c9, c10], _ => exact ⟨c0, c1, c2, c3, c4, c5, c6, c7, c8, c9, c10, rfl⟩
  obtain ⟨fuel, hf⟩ := h
  obtain ⟨xs, m, rfl, hx, _, hl, hi⟩ := DataW.trod_struct Tryz.underlying26 hf
  obtain ⟨y0, y1, y2, y3, y4, y5, rfl⟩ : ∃ y0 y1 y2 y3 y4 y5, xs = [y0, y1, y2, y3, y4, y5] := by
    match xs, hl with
    | [y0, y1, y2, y3, y4, y5], _ => exact ⟨y0, y1, y2, y3, y4, y5, rfl⟩
  have e0 := hi 0 _ rfl
  have e1 := hi 1 _ rfl
  have e2 := hi 2 _ rfl
  have e3 := hi 3 _ rfl
  have e4 := hi 4 _ rfl
  have e5 := hi 5 _ rfl
  simp [cellsInt, cellsStr, cellsBool, cellsTox, Value.cells] at e0 e1 e2 e3 e4 e5
  obtain ⟨x0, q0, rfl, w0⟩ := DataW.trod_int Tryz.underlying3 e0
  obtain ⟨x1, q1, rfl, w1⟩ := DataW.trod_int Tryz.underlying3 e1
  obtain ⟨x2, q2, rfl, w2⟩ := DataW.trod_string Tryz.underlying9 e2
  obtain ⟨x3, q3, rfl, w3⟩ := DataW.trod_string Tryz.underlying9 e3
  obtain ⟨x4, q4, rfl⟩ := DataW.trod_bool Tryz.underlying4 e4
  obtain ⟨t, t0, t1, t2, t3, t4, t5, tw, tn⟩ := tox_in0 e5
  subst t0 t1 t2 t3 t4 t5
  cases q0
  cases q1
  cases q2
  cases q3
  cases q4
  refine ⟨⟨x0, x1, x2, x3, x4, t⟩, rfl, ⟨w2, tw, w3⟩, ?_⟩
  simpa [tn] using (congrArg Prod.snd hx)
end
set_option maxRecDepth 100000 in
/-- What is appended to no toxics. -/
theorem own_tox {w : World} {q : Option Addr} {m d : Nat} {l : List Tox} (hl : l.length = m) (hm : m ≤ 1000000) (hi : ToxIn w q m l) :
    ∃ q' d' w', (∀ ty, (Builtin.append_ #[35, 35] ty #[.slice (some ⟨w.heap.size, 0, none⟩) 0 0, .slice q m d]).run Tryz.prog (w.alloc (.cells #[] TT)) = .ok (.slice q' m d') w') ∧ TRow w' w.heap.size q' m d' l ∧ Below w.heap.size w w' := by
  cases q with
  | some a =>
    obtain ⟨i0, hi0, hz0, hz1, hz2⟩ := info_parts infoT
    exact clone_app (w := w) (a := a) (n := m) (c := d) (news := flatT l) Tryz.underlying35 hi0 hz0 hz1 hz2 rfl (by decide) (by rw [flatT_len, hl]) (tox_cells hl hi) (flatT_one _) (by unfold maxLen; omega) (by omega)
  | none =>
    have h0 : m = 0 := by
      rcases Nat.eq_zero_or_pos m with h | h
      · exact h
      · obtain ⟨b, o, e, _⟩ := hi h
        cases e
    subst h0
    obtain rfl : l = [] := List.eq_nil_of_length_eq_zero hl
    have hb := heap_alloc_new w (.cells #[] TT)
    refine ⟨some ⟨w.heap.size, 0, none⟩, 0, w.alloc (.cells #[] TT), fun ty => ?_, ⟨by simp [flatT], Nat.le_refl _, Nat.zero_le _, (fun e => by cases e), fun x e => by
      cases e
      exact ⟨_, _, _, rfl, Nat.le_refl _, hb, by simp, fun j v hj => by simp [flatT] at hj⟩⟩, (Below.refl _ _).alloc (Nat.le_refl _) _⟩
    obtain ⟨i0, hi0, hz0, hz1, hz2⟩ := info_parts infoT
    simp [Builtin.append_, run_underlying Tryz.underlying35, sizeOf, typeInfo, hi0, Builtin.lenOf, Builtin.firstCells, Addr.add_lit, storeCells, Sem.run, Result.andThen, pure]
set_option maxRecDepth 100000 in
set_option maxHeartbeats 16000000 in
theorem namesOwn.walk (p : Option Addr) (n d : Nat) (l : List Prx) (O : NOp) (w : World) (hl : l.length = n) (hnx : n ≤ maxLen) (hm : ∀ x ∈ l, x.ts.length ≤ maxLen ∧ x.s.size ≤ maxLen) (hz : ∀ x ∈ l, ∀ u ∈ x.ts, u.s.size ≤ maxLen) (hi : PrxIn w p n l) (htab : gx.Tab w) (hs : O.s.size ≤ maxLen) (ht : O.t.s.size ≤ maxLen) (hx : O.x.size ≤ maxLen) :
    Calls Tryz.prog 7 #[.slice p n d, nopV O] w fun e w' => e = .returned (.bool true) ∧ Below w.heap.size w w' := by
  obtain ⟨w1, hw1⟩ : ∃ w1, w.alloc (nopC O) = w1 := ⟨_, rfl⟩
  have hb1 : Below w.heap.size w w1 := by rw [← hw1]; exact (Below.refl _ _).alloc (Nat.le_refl _) _
  have h1 : w1.heap[w.heap.size]? = some (nopC O) := by rw [← hw1]; exact heap_alloc_new _ _
  have HB1 := Lib.hid hb1
  have HOB := Lib.hid (fun W (hW : Below w1.heap.size w1 W) => nop_at ((hW.block _ (gc.blk_lt h1)).trans h1))
  have HI := Lib.hid (prxs_on hi hb1)
  have HAL := Lib.hid (fun W (hW : Below w1.heap.size w1 W) => alive_any W (gx.tab_on (gx.tab_on htab hb1) hW))
  have HF := Lib.hid (few_any p n d l w1 hl hnx hm (prxs_on hi hb1))
  have HK := Lib.hid (fun W => kind_any O W hs ht hx)
  unfold nopC at hw1
  unfold nopV at HK ⊢
  have HW := Lib.hid hw1
  have HZ := Lib.hid hz
  have HL := Lib.hid hl
  clear hb1 hi htab hw1 hm hz hnx hl hs ht hx h1
  go_enter Tryz.func7, Tryz.ntmps7
  go_wp2_with fail
  rw [HW.out]
  refine HF.out.mono ?_
  rintro e w2 ⟨rfl, hb⟩
  have HD2 := Lib.hid hb
  clear hb HF
  cases hf : fewB l with
  | false =>
    clear hf
    go_wp2_with fail
    refine (HAL.out _ HD2.out).mono ?_
    rintro e wz ⟨rfl, hb⟩
    have HZZ := Lib.hid (seqB HB1.out (seqB HD2.out hb))
    clear hb
    go_wp2_with fail
    go_ret
    exact ⟨rfl, HZZ.out⟩
  | true =>
    obtain ⟨hlean, h12⟩ := few_lean hf HZ.out
    rw [HL.out] at h12
    have HLN := Lib.hid hlean
    obtain ⟨x0, x1, x2, x3, x4, x5, x6, x7, x8, x9, x10⟩ := HOB.out _ HD2.out
    clear hf hlean
    go_wp2_with fail
    refine (HK.out w2).mono ?_
    rintro e w3 ⟨bk, rfl, hk, hb⟩
    have HD3 := Lib.hid (seqB HD2.out hb)
    have HKK := Lib.hid hk
    clear hb hk HD2 x0 x1 x2 x3 x4 x5 x6 x7 x8 x9 x10
    cases bk with
    | false =>
      go_wp2_with fail
      refine (HAL.out _ HD3.out).mono ?_
      rintro e wz ⟨rfl, hb⟩
      have HZZ := Lib.hid (seqB HB1.out (seqB HD3.out hb))
      clear hb
      go_wp2_with fail
      go_ret
      exact ⟨rfl, HZZ.out⟩
    | true =>
      have HFT := Lib.hid (HKK.out.1 rfl)
      have HR := Lib.hid (rright_any p n d l w3 HL.out (by omega) HLN.out (prxs_on HI.out HD3.out))
      clear HKK
      go_wp2_with fail
      refine HR.out.mono ?_
      rintro e w4 ⟨rfl, hb⟩
      have HD4 := Lib.hid (seqB HD3.out hb)
      clear hb HR HD3
      cases hrb : rightB l with
      | false =>
        clear hrb
        go_wp2_with fail
        refine (HAL.out _ HD4.out).mono ?_
        rintro e wz ⟨rfl, hb⟩
        have HZZ := Lib.hid (seqB HB1.out (seqB HD4.out hb))
        clear hb
        go_wp2_with fail
        go_ret
        exact ⟨rfl, HZZ.out⟩
      | true =>
        have HRT := Lib.hid (right_true.1 hrb)
        clear hrb
        go_wp2_with fail
        go_loopw [5, 7, 28] (fun x _ i wr => ∃ k : Nat, k ≤ n ∧ i = .int .i64 k ∧ ∃ q c, x = .slice q k c ∧ Hid (POwn wr w4.heap.size q k c (l.take k)) ∧ Hid (Below w4.heap.size w4 wr)) (fun _ _ i _ => n - (intOf i).toNat)
        case atStart => exact ⟨0, by omega, rfl, none, 0, rfl, Lib.hid (pown_nil w4 w4.heap.size), Lib.hid (Below.refl _ _)⟩
        case round =>
          obtain ⟨k, hk, rfl, q, c, rfl, HO, HB⟩ := hrel
          by_cases hlt : k < n
          · obtain ⟨b, o, rfl, hc⟩ := prxs_on HI.out (seqB HD4.out HB.out) (by omega)
            obtain ⟨e0, e1, e2, q1, m1, d1, e3, em, el, et⟩ := hc k hlt
            rw [← Nat.add_assoc] at e1 e2 e3
            have hkl : k < l.length := by rw [HL.out]; exact hlt
            have hmem : l.getD k noPrx ∈ l := by rw [getD_at _ _ hkl]; exact List.getElem_mem _
            have HX8 := Lib.hid (HLN.out _ hmem)
            have HT := Lib.hid (show l.take (k + 1) = l.take k ++ [l.getD k noPrx] from by rw [getD_at _ _ hkl, List.take_succ_eq_append_getElem hkl])
            generalize l.getD k noPrx = x at *
            obtain ⟨xs, xon, xm, xt⟩ := x
            simp only at e0 e1 e2 em el et HX8
            have hal : Below wr.heap.size wr (wr.alloc (.cells #[.string xs, .bool xon, .int .i64 xm, .slice q1 m1 d1] TP)) := (Below.refl _ _).alloc (Nat.le_refl _) _
            have hnew := heap_alloc_new wr (.cells #[.string xs, .bool xon, .int .i64 xm, .slice q1 m1 d1] TP)
            have hsA : (wr.alloc (.cells #[.string xs, .bool xon, .int .i64 xm, .slice q1 m1 d1] TP)).heap.size = wr.heap.size + 1 := World.size_alloc _ _
            obtain ⟨wA, hwA⟩ : ∃ wA, wr.alloc (.cells #[.string xs, .bool xon, .int .i64 xm, .slice q1 m1 d1] TP) = wA := ⟨_, rfl⟩
            rw [hwA] at hal hnew hsA
            obtain ⟨q', d', wC, r1, r2, r3⟩ := own_tox (w := wA) (q := q1) (m := m1) (d := d1) el (by rw [← el]; exact HX8.out.2.1) (toxs_on et hal)
            have hC0 := (r3.block _ (gc.blk_lt hnew)).trans hnew
            have f3 : wC.frozen? ⟨wr.heap.size, 3, none⟩ = false := gc.frozen_at hC0
            have a0 := cell_of_row _ _ 0 _ _ _ hC0
            have a1 := cell_of_row _ _ 1 _ _ _ hC0
            have a2 := cell_of_row _ _ 2 _ _ _ hC0
            have a3 := cell_of_row _ _ 3 _ _ _ hC0
            obtain ⟨wD, hwD⟩ : ∃ wD, wC.setCell ⟨wr.heap.size, 3, none⟩ (.slice q' m1 d') = wD := ⟨_, rfl⟩
            have hbD : Below wr.heap.size wr wD := by rw [← hwD]; exact (seqB hal r3).setCell (Nat.le_refl _) _
            have hsD : wD.heap.size = wC.heap.size := by rw [← hwD]; simp
            have hTD : TRow wD wA.heap.size q' m1 d' xt := gc.ORow.keep r2 fun a ha => by
              have h1 := (gc.ORow.lt r2 a ha).1
              rw [← hwD, Below.heap_setCell _ _ _ _ (by show a.block ≠ _; simp only; omega)]
            have hbDF : Below wD.heap.size wD (wD.alloc (.cells #[.string xs, .bool xon, .int .i64 xm, .slice q' m1 d'] TP)) := (Below.refl _ _).alloc (Nat.le_refl _) _
            have hnF := heap_alloc_new wD (.cells #[.string xs, .bool xon, .int .i64 xm, .slice q' m1 d'] TP)
            rw [hsD] at hnF
            have hbF := seqB hbD hbDF
            obtain ⟨zs, hz1, hz2, hdis⟩ := HO.out
            obtain ⟨q3, c3', w3, s1, s2, s3⟩ := PRow.app (hz2.on hbF) (Nat.le_trans HB.out.size hbF.size) (by omega) (a := ⟨wC.heap.size, 0, none⟩) (d := 1) ⟨⟨xs, xon, xm, xt⟩, q', m1, d'⟩ (orow_low (gc.ORow.on hTD hbDF) (Nat.le_trans HB.out.size (by omega))) (fun j u hj => by
              rw [WideShapes.add_plain]
              simp only [World.cell?, hnF]
              rw [Nat.zero_add]
              simpa [RP.cells] using hj)
            have r1' := r1
            rw [hsA, ← hwA] at r1'
            have s1' := s1
            rw [← hwD] at s1'
            have HRC := Lib.hid r1'
            have HR3 := Lib.hid s1'
            have HO3 := Lib.hid (show POwn w3 w4.heap.size q3 (k + 1) c3' (l.take (k + 1)) from ⟨zs ++ [⟨⟨xs, xon, xm, xt⟩, q', m1, d'⟩], by rw [List.map_append, hz1, HT.out]; rfl, s2, dis_app hdis fun y hy a a' e e' => by
              have h1 := (gc.ORow.lt (hz2.tox y hy) a e).2
              have h2 := (gc.ORow.lt r2 a' e').1
              omega⟩)
            have HB3 := Lib.hid ((HB.out.trans (hbF.mono HB.out.size)).trans s3)
            clear hwA hwD hal hnew hsA r1 r1' s1' r2 r3 hC0 hc et hkl hbD hsD hTD hbDF hnF hbF hz1 hz2 hdis s1 s2 s3 HO HB HT HX8
            go_wp2_with (at_builtin; first
              | refine Lib.wpList_append_run _ rfl _ _ _ _ rfl (.slice (some ⟨wr.heap.size + 1, 0, none⟩) 0 0) (.slice q1 m1 d1) rfl rfl _ _ (HRC.out _) ?_
              | refine Lib.wpList_append_run _ rfl _ _ _ _ rfl (.slice q k c) (.slice (some ⟨wC.heap.size, 0, none⟩) 1 1) rfl rfl _ _ (HR3.out _) ?_)
            go_roundw
            case rel => exact ⟨k + 1, by omega, by go_num, q3, c3', rfl, HO3, HB3⟩
            case measure => simp [intOf]; omega
          · obtain rfl : k = n := by omega
            obtain ⟨ws, hws⟩ : ∃ ws, ws = wr := ⟨_, rfl⟩
            subst hws
            have HE := Lib.hid (show l.take k = l from List.take_of_length_le (by rw [HL.out]; exact Nat.le_refl _))
            have HWS := Lib.hid (show POwn ws w4.heap.size q k c l from by have h := HO.out; rwa [HE.out] at h)
            have HD5 := Lib.hid (seqB HD4.out HB.out)
            have HDO := Lib.hid (does_any p k d l O ws HFT.out HL.out (by omega) HLN.out (prxs_on HI.out HD5.out))
            unfold nopV at HDO
            obtain ⟨x0, x1, x2, x3, x4, x5, x6, x7, x8, x9, x10⟩ := HOB.out _ HD5.out
            have HRA := Lib.hid (Nm.doP_right l O)
            generalize (Nm.doP l O).2 = ER at *
            generalize (Nm.doP l O).1 = L at *
            clear HO HE HB HD4
            go_wp2_with fail
            refine HDO.out.mono ?_
            rintro e w5 ⟨qa, m, ca, rfl, hp, hb⟩
            have HB5 := Lib.hid hb
            have hm8 : m ≤ 8 := by rw [← hp.len]; exact HRA.out.few
            have HZS := Lib.hid (show ∃ zs, PRow w5 ws.heap.size qa m ca zs ∧ Dis zs from by obtain ⟨zs, _, h1, h2⟩ := hp; exact ⟨zs, h1, h2⟩)
            clear hb hp HDO HRA x0 x1 x2 x3 x4 x5 x6 x7 x8 x9 x10
            go_wp2_with fail
            go_loopw [10, 50] (fun _ i wr => ∃ j : Nat, j ≤ m ∧ i = .int .i64 j ∧ Hid (∃ zs, PRow wr ws.heap.size qa m ca zs ∧ Dis zs) ∧ Hid (Below ws.heap.size ws wr)) (fun _ i _ => m - (intOf i).toNat)
            case atStart => exact ⟨0, by omega, rfl, HZS, HB5⟩
            case round =>
              clear HZS HB5
              obtain ⟨j, hj, rfl, HZS, HBV⟩ := hrel
              by_cases hjm : j < m
              · obtain ⟨zs, hr, hdis⟩ := HZS.out
                obtain ⟨b2, o2, cur, rfl, hbb, hcur, hsz⟩ := hr.blk (by omega)
                obtain ⟨b', o', e', hcell⟩ := hr.cells (by omega)
                cases e'
                obtain ⟨-, -, c2, c3⟩ := hcell j hjm
                have f2 : wr.frozen? ⟨b2, o2 + j * 4 + 2, none⟩ = false := gc.frozen_at hcur
                have hzm := hr.mem hjm
                have hlen := hr.len
                obtain ⟨z, hzz⟩ : ∃ z, zs.getD j noRP = z := ⟨_, rfl⟩
                have hmz : z.m ≤ maxLen := by
                  have h := hr.tox _ hzm
                  rw [hzz] at h
                  exact Nat.le_trans (gc.ORow.cap h) h.max
                have hset := hr.set1 hjm (j := 2) (by decide) ⟨{ z.x with most := 1 }, z.q, z.m, z.d⟩ (.int .i64 1) (by rw [hzz]; rfl) (by have h := hr.tox _ hzm; rw [hzz] at h; exact h)
                have hzk : zs[j]'(by omega) = z := by rw [← hzz, getD_at zs noRP (by omega)]
                have hdis2 : Dis (zs.set j ⟨{ z.x with most := 1 }, z.q, z.m, z.d⟩) := dis_set hdis (by omega) fun a' e => Or.inl ⟨a', by rw [hzk]; exact e, rfl⟩
                have HZ2 := Lib.hid (show ∃ zs, PRow (wr.setCell ⟨b2, o2 + j * 4 + 2, none⟩ (.int .i64 1)) ws.heap.size (some ⟨b2, o2, none⟩) m ca zs ∧ Dis zs ∧ (zs.getD j noRP).q = z.q ∧ (zs.getD j noRP).m = z.m ∧ (zs.getD j noRP).d = z.d from by
                  refine ⟨_, by have h := hset; rwa [← Nat.add_assoc] at h, hdis2, ?_⟩
                  rw [getD_at _ noRP (by rw [List.length_set]; omega), List.getElem_set_self]
                  exact ⟨rfl, rfl, rfl⟩)
                have HBN := Lib.hid (HBV.out.setCell (p := ⟨b2, o2 + j * 4 + 2, none⟩) hbb (.int .i64 1))
                rw [hzz] at c2 c3
                rw [← Nat.add_assoc] at c2 c3
                unfold maxLen at hmz
                obtain ⟨zx, zq, zm, zd⟩ := z
                dsimp only at hmz c2 c3 HZ2
                obtain ⟨wN, hwN⟩ : ∃ wN, wr.setCell ⟨b2, o2 + j * 4 + 2, none⟩ (.int .i64 1) = wN := ⟨_, rfl⟩
                rw [hwN] at HZ2 HBN
                have HWN := Lib.hid hwN
                clear hr hdis hcell hzm hlen hzz hset hzk hdis2 HZS HBV hwN hcur hsz
                go_wp2_with fail
                rw [HWN.out]
                go_loopw [11, 63] (fun _ i wr => ∃ t : Nat, t ≤ zm ∧ i = .int .i64 t ∧ Hid (∃ zs, PRow wr ws.heap.size (some ⟨b2, o2, none⟩) m ca zs ∧ Dis zs ∧ (zs.getD j noRP).q = zq ∧ (zs.getD j noRP).m = zm ∧ (zs.getD j noRP).d = zd) ∧ Hid (Below ws.heap.size ws wr)) (fun _ i _ => zm - (intOf i).toNat)
                case atStart => exact ⟨0, by omega, rfl, HZ2, HBN⟩
                case round =>
                  clear HZ2 HBN HWN c2 c3 f2
                  obtain ⟨t, ht, rfl, HZT, HBT⟩ := hrel
                  by_cases htm : t < zm
                  · obtain ⟨zs, hr, hdis, hq, hmm, hdd⟩ := HZT.out
                    obtain ⟨b', o', e', hcell⟩ := hr.cells (by omega)
                    cases e'
                    obtain ⟨-, -, -, c3⟩ := hcell j hjm
                    have hlen := hr.len
                    have htr := hr.tox _ (hr.mem hjm)
                    rw [hq, hmm, hdd] at c3 htr
                    rw [← Nat.add_assoc] at c3
                    obtain ⟨b3, o3, cur3, hq3, hcur3⟩ := TRow.at htr (by omega)
                    subst hq3
                    have hb3 := (gc.ORow.lt htr _ rfl).1
                    obtain ⟨b'', o'', e'', hct⟩ := htr.tox (by omega)
                    cases e''
                    obtain ⟨-, -, -, -, d4, -⟩ := hct t htm
                    have hts := htr.len
                    have f4 : wr.frozen? ⟨b3, o3 + t * 6 + 4, none⟩ = false := gc.frozen_at hcur3
                    have e6 : o3 + (t * 6 + 4) = o3 + t * 6 + 4 := by omega
                    obtain ⟨ts, hts0⟩ : ∃ ts, (zs.getD j noRP).x.ts = ts := ⟨_, rfl⟩
                    rw [hts0] at d4 hts htr
                    obtain ⟨T, hT⟩ : ∃ T, ts.getD t noTox = T := ⟨_, rfl⟩
                    have hti : ts[t]'(by omega) = T := by rw [← hT, getD_at ts noTox (by omega)]
                    rw [hT, e6] at d4
                    have htr2 : TRow (wr.setCell ⟨b3, o3 + (t * 6 + 4), none⟩ (.int .i64 (wrap64 (T.a + 1)))) ws.heap.size (some ⟨b3, o3, none⟩) zm zd (ts.set t { T with a := wrap64 (T.a + 1) }) := by
                      unfold TRow flatT
                      rw [flat_set1 tc_len ts t (by omega) 4 (by decide) { T with a := wrap64 (T.a + 1) } (.int .i64 (wrap64 (T.a + 1))) (by rw [hti]; rfl)]
                      exact orow_one htr _
                    have hg : wr.grownBy (wr.setCell ⟨b3, o3 + (t * 6 + 4), none⟩ (.int .i64 (wrap64 (T.a + 1)))) (some b3) := gc.setCells_grown wr b3 (o3 + (t * 6 + 4)) [.int .i64 (wrap64 (T.a + 1))]
                    have hset := hr.settox hdis hjm rfl (by rw [hq]; exact hg) (by rw [hq, hmm, hdd]; exact htr2)
                    rw [e6] at hset
                    have hdis2 := dis_set hdis (K := j) (by omega) (z := ⟨{ (zs.getD j noRP).x with ts := ts.set t { T with a := wrap64 (T.a + 1) } }, (zs.getD j noRP).q, (zs.getD j noRP).m, (zs.getD j noRP).d⟩) fun a' e => Or.inl ⟨a', by rw [← getD_at zs noRP (by omega)]; exact e, rfl⟩
                    have HZ3 := Lib.hid (show ∃ zs, PRow (wr.setCell ⟨b3, o3 + t * 6 + 4, none⟩ (.int .i64 (wrap64 (T.a + 1)))) ws.heap.size (some ⟨b2, o2, none⟩) m ca zs ∧ Dis zs ∧ (zs.getD j noRP).q = some ⟨b3, o3, none⟩ ∧ (zs.getD j noRP).m = zm ∧ (zs.getD j noRP).d = zd from by
                      refine ⟨_, hset, hdis2, ?_⟩
                      rw [getD_at _ noRP (by rw [List.length_set]; omega), List.getElem_set_self]
                      exact ⟨hq, hmm, hdd⟩)
                    have HBM := Lib.hid (HBT.out.setCell (p := ⟨b3, o3 + t * 6 + 4, none⟩) hb3 (.int .i64 (wrap64 (T.a + 1))))
                    clear hr hdis hcell hlen htr hct hts hts0 hT hti htr2 hg hset hdis2 HZT HBT hq hmm hdd hcur3 e6
                    go_wp2_with fail
                    go_roundw
                    case rel => exact ⟨t + 1, by omega, by go_num, HZ3, HBM⟩
                    case measure => simp [intOf]; omega
                  · obtain rfl : t = zm := by omega
                    have HZE := Lib.hid (show ∃ zs, PRow wr ws.heap.size (some ⟨b2, o2, none⟩) m ca zs ∧ Dis zs from by obtain ⟨zs, h1, h2, _⟩ := HZT.out; exact ⟨zs, h1, h2⟩)
                    clear HZT
                    go_wp2_with fail
                    go_roundw
                    case rel => exact ⟨j + 1, by omega, by go_num, HZE, HBT⟩
                    case measure => simp [intOf]; omega
              · obtain rfl : j = m := by omega
                have HD6 := Lib.hid (seqB HD5.out HBV.out)
                have HA1 := Lib.hid (HAL.out _ HD6.out)
                go_wp2_with fail
                refine HA1.out.mono ?_
                rintro e wz ⟨rfl, hb⟩
                have HD7 := Lib.hid (seqB HD6.out hb)
                have HSM := Lib.hid (show Calls Tryz.prog 14 #[.slice p k d, .slice q k c] wz fun e w' => e = .returned (.bool true) ∧ Below wz.heap.size wz w' from by
                  have h := rsame_any p q k k d c l l wz HL.out HL.out (by omega) (by omega) (lean_of HLN.out) (lean_of HLN.out) (prxs_on HI.out HD7.out) (prxs_on HWS.out.prx (seqB HBV.out hb))
                  rwa [decide_eq_true rfl] at h)
                clear hb
                go_wp2_with fail
                refine HSM.out.mono ?_
                rintro e wy ⟨rfl, hb⟩
                have HZZ := Lib.hid (seqB HB1.out (seqB HD7.out hb))
                clear hb
                go_wp2_with fail
                go_ret
                exact ⟨rfl, HZZ.out⟩
end Go.Proofs.YtmghkcjljnlocaaGreatDoor

/-
  Contracts: reach, Find. Conditions: the names' lengths.
-/
import Derived.Test.YtmghkcjljnlocaaGreatDoorPG
namespace Go.Proofs.YtmghkcjljnlocaaGreatDoor
open Go.RowKit
theorem lean_of {l : List Prx} (h : Lean14 l) : ∀ x ∈ l, x.ts.length ≤ 1000000 := fun x hx => (h x hx).2.1
section
variable (p : Option Addr) (n d : Nat) (l : List Prx) (s : ByteArray) (w : World)
set_option maxRecDepth 100000 in
set_option maxHeartbeats 4000000 in
theorem reach_no (hl : l.length = n) (hn : n ≤ 1000000) (hz : Lean14 l) (hi : PrxIn w p n l) (hr : ¬ Nm.Right l) :
    Calls Tryz.prog 56 #[.slice p n d, .string s] w fun e w' => e = .returned (.tuple #[.slice none 0 0, .int .i64 0, .int .i64 1]) ∧ Below w.heap.size w w' := by
  have hR := right_any p n d l w hl hn hz hi
  rw [right_no hr] at hR
  have HR := Lib.hid hR
  clear hR hi hz hl hr
  go_enter Tryz.func56, Tryz.ntmps56
  go_wp2_with fail
  refine HR.out.mono ?_
  rintro e w1 ⟨rfl, hb⟩
  have HB := Lib.hid hb
  clear hb HR
  go_wp2_with fail
  go_ret3
  exact ⟨rfl, HB.out⟩
/-- What reach tells of a right registry. -/
def OutRe (n : Nat) (l : List Prx) (at' er : Int) (w : World) (e : Ending) (w' : World) : Prop := ∃ q c, e = .returned (.tuple #[.slice q n c, .int .i64 at', .int .i64 er]) ∧ POwn w' w.heap.size q n c l ∧ Below w.heap.size w w'
set_option maxRecDepth 100000 in
set_option maxHeartbeats 4000000 in
theorem reach_yes (hl : l.length = n) (hz : Lean14 l) (hi : PrxIn w p n l) (hr : Nm.Right l) :
    Calls Tryz.prog 56 #[.slice p n d, .string s] w (OutRe n l (if Nm.fP l s < n then (Nm.fP l s : Int) else 0) (if Nm.fP l s < n then 0 else 142) w) := by
  have h8 : n ≤ 8 := by rw [← hl]; exact hr.few
  have hR := right_any p n d l w hl (by omega) hz hi
  rw [right_yes hr] at hR
  have HR := Lib.hid hR
  have HO := Lib.hid (fun W (hW : Below w.heap.size w W) => ownlist_any p n d l W hl (by omega) (lean_of hz) (prxs_on hi hW))
  have HW := Lib.hid (fun (W : World) (b : Nat) q c (h : POwn W b q n c l) => whereP_any q n c l s W hl (by omega) h.prx)
  clear hR hi hz hr hl
  by_cases hk : Nm.fP l s < n
  · rw [if_pos hk, if_pos hk]
    have e1 : orNone (Nm.fP l s) n = (Nm.fP l s : Int) := if_pos hk
    rw [e1] at HW
    generalize Nm.fP l s = K at *
    have d1 : decide ((K : Int) < 0) = false := decide_eq_false (by omega)
    have d2 : ¬ ((K : Int) < 0) := by omega
    clear e1
    go_enter Tryz.func56, Tryz.ntmps56
    go_wp2_with fail
    refine HR.out.mono ?_
    rintro e w1 ⟨rfl, hb⟩
    have HB := Lib.hid hb
    clear hb HR
    go_wp2_with fail
    refine (HO.out _ HB.out).mono ?_
    rintro e w2 ⟨q, c, rfl, ho, hb⟩
    have HB2 := Lib.hid (seqB HB.out hb)
    have HP := Lib.hid (show POwn w2 w.heap.size q n c l from by
      obtain ⟨zs, e1, e2, e3⟩ := ho
      exact ⟨zs, e1, ⟨orow_low e2.row HB.out.size, fun z hz => orow_low (e2.tox z hz) HB.out.size⟩, e3⟩)
    clear ho hb HO
    go_wp2_with fail
    refine (HW.out _ _ _ _ HP.out).mono ?_
    rintro e w3 ⟨rfl, hb⟩
    have HB3 := Lib.hid (seqB HB2.out hb)
    have HP3 := Lib.hid (HP.out.on hb)
    clear hb HW HP
    go_wp2_with fail
    go_ret3
    exact ⟨q, c, rfl, HP3.out, HB3.out⟩
  · rw [if_neg hk, if_neg hk]
    have e1 : orNone (Nm.fP l s) n = -1 := if_neg hk
    rw [e1] at HW
    clear e1 hk
    go_enter Tryz.func56, Tryz.ntmps56
    go_wp2_with fail
    refine HR.out.mono ?_
    rintro e w1 ⟨rfl, hb⟩
    have HB := Lib.hid hb
    clear hb HR
    go_wp2_with fail
    refine (HO.out _ HB.out).mono ?_
    rintro e w2 ⟨q, c, rfl, ho, hb⟩
    have HB2 := Lib.hid (seqB HB.out hb)
    have HP := Lib.hid (show POwn w2 w.heap.size q n c l from by
      obtain ⟨zs, e1, e2, e3⟩ := ho
      exact ⟨zs, e1, ⟨orow_low e2.row HB.out.size, fun z hz => orow_low (e2.tox z hz) HB.out.size⟩, e3⟩)
    clear ho hb HO
    go_wp2_with fail
    refine (HW.out _ _ _ _ HP.out).mono ?_
    rintro e w3 ⟨rfl, hb⟩
    have HB3 := Lib.hid (seqB HB2.out hb)
    have HP3 := Lib.hid (HP.out.on hb)
    clear hb HW HP
    go_wp2_with fail
    go_ret3
    exact ⟨q, c, rfl, HP3.out, HB3.out⟩
/-- What Find tells. -/
def OutF (l : List Prx) (k : Nat) (w : World) (e : Ending) (w' : World) : Prop := ∃ q d, e = .returned (.tuple #[.agg #[.string (l.getD k noPrx).s, .bool (l.getD k noPrx).on, .int .i64 (l.getD k noPrx).most, .slice q (l.getD k noPrx).ts.length d], .bool true]) ∧ TRow w' w.heap.size q (l.getD k noPrx).ts.length d (l.getD k noPrx).ts ∧ Below w.heap.size w w'
end
end Go.Proofs.YtmghkcjljnlocaaGreatDoor

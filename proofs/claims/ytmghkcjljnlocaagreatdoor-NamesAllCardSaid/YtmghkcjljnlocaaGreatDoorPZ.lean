/-
  Contract: alive. Conditions: the table of digits.
-/
import Derived.Test.YtmghkcjljnlocaaGreatDoorPY
import Derived.Test.YtmghkcjljnlocaaGreatDoorPW
namespace Go.Proofs.YtmghkcjljnlocaaGreatDoor
open Go.RowKit
theorem prxin_nil (w : World) : PrxIn w none 0 [] := fun h => absurd h (Nat.lt_irrefl 0)
theorem lean_nil : Lean14 [] := fun _ hx => (List.not_mem_nil hx).elim
section
variable (w : World)
theorem al_add : Calls Tryz.prog 24 #[.slice none 0 0, .string ⟨#[97]⟩, .int .i64 3] w (OutDo [p0] 0 w) := by
  have h := add_any none 0 0 [] oA w rfl (by unfold maxLen; decide) rfl (by decide) lean_nil (prxin_nil w)
  rw [al1] at h
  exact h
theorem al_tox {q : Option Addr} {n c base : Nat} (hP : POwn w base q n c [p0]) : Calls Tryz.prog 22 #[.slice q n c, .string ⟨#[97]⟩, .agg #[.string ⟨#[108, 97, 103]⟩, .int .i64 1, .bool true, .int .i64 100, .int .i64 5, .int .i64 1]] w (OutDo [p1] 0 w) := by
  have hl : n = 1 := hP.len.symm
  have h := addToxic_any q n c [p0] oT w rfl (by unfold maxLen; decide) hP.len (by omega) al_lean1 hP.prx
  rw [al2] at h
  exact h
theorem al_drop {q : Option Addr} {n c base : Nat} (hP : POwn w base q n c [p1]) : Calls Tryz.prog 25 #[.slice q n c, .string ⟨#[98]⟩] w (OutDo [p1] 142 w) := by
  have hl : n = 1 := hP.len.symm
  have h := drop_any q n c [p1] oD w rfl hP.len (by omega) al_lean2 hP.prx
  rw [al5] at h
  exact h
/-- What Find tells here. -/
def OutF1 (w : World) (e : Ending) (w' : World) : Prop := ∃ q d, e = .returned (.tuple #[.agg #[.string ⟨#[97]⟩, .bool true, .int .i64 3, .slice q 1 d], .bool true]) ∧ TRow w' w.heap.size q 1 d [t0] ∧ Below w.heap.size w w'
theorem al_find {q : Option Addr} {n c base : Nat} (hP : POwn w base q n c [p1]) : Calls Tryz.prog 26 #[.slice q n c, .string ⟨#[97]⟩] w (OutF1 w) := by
  have hl : n = 1 := hP.len.symm
  have h := find_yes q n c [p1] sA w hP.len (by omega) al_lean2 hP.prx (by rw [al3]; omega)
  rw [al3] at h
  exact h
theorem al_right {q : Option Addr} {n c base : Nat} (hP : POwn w base q n c [p1]) : Calls Tryz.prog 16 #[.slice q n c] w fun e w' => e = .returned (.bool true) ∧ Below w.heap.size w w' := by
  have hl : n = 1 := hP.len.symm
  have h := right_any q n c [p1] w hP.len (by omega) al_lean2 hP.prx
  rwa [right_yes al_r1] at h
theorem al_same {q : Option Addr} {n c base : Nat} (hP : POwn w base q n c [p1]) : Calls Tryz.prog 28 #[.slice q n c, .slice q n c] w fun e w' => e = .returned (.bool true) ∧ Below w.heap.size w w' := by
  have hl : n = 1 := hP.len.symm
  have hf : Few14 [p1] := lean_of al_lean2
  have h := same_any q q n n c c [p1] [p1] w hP.len hP.len (by omega) (by omega) hf hf hP.prx hP.prx
  rwa [decide_eq_true rfl] at h
theorem al_lines {q : Option Addr} {d base : Nat} (ht : TRow w base q 1 d [t0]) (htab : gx.Tab w) : Calls Tryz.prog 17 #[.agg #[.string ⟨#[97]⟩, .bool true, .int .i64 3, .slice q 1 d]] w (OutX [⟨#[97, 32, 111, 110, 32, 51, 32, 49]⟩, ⟨#[108, 97, 103, 32, 108, 97, 116, 101, 110, 99, 121, 32, 117, 112, 32, 49, 48, 48, 32, 53, 32, 49]⟩] w) := by
  have h := lines_any ⟨#[97]⟩ true 3 q 1 d [t0] w (by unfold maxLen; decide) rfl (gc.ORow.cap ht) (by decide) (fun t h => by rw [List.mem_singleton.1 h]; unfold maxLen; decide) ht.tox htab
  rw [show linesP ⟨⟨#[97]⟩, true, 3, [t0]⟩ = linesP p1 from rfl, al4] at h
  exact h
set_option maxRecDepth 100000 in
set_option maxHeartbeats 8000000 in
theorem alive_any (htab : gx.Tab w) : Calls Tryz.prog 11 #[] w fun e w' => e = .returned (.bool true) ∧ Below w.heap.size w w' := by
  have HT := Lib.hid htab
  have H1 := Lib.hid (al_add w)
  clear htab
  go_enter Tryz.func11, Tryz.ntmps11
  go_wp2_with fail
  refine H1.out.mono ?_
  rintro e w1 ⟨q1, n1, c1, rfl, hp, hb⟩
  have HB := Lib.hid hb
  have H2 := Lib.hid (al_tox w1 hp)
  clear hb hp H1
  go_wp2_with fail
  refine H2.out.mono ?_
  rintro e w2 ⟨q2, n2, c2, rfl, hp, hb⟩
  obtain rfl : n2 = 1 := hp.len.symm
  have HB2 := Lib.hid (seqB HB.out hb)
  have HP2 := Lib.hid hp
  have H3 := Lib.hid (al_find w2 hp)
  clear hb hp H2 HB
  go_wp2_with fail
  refine H3.out.mono ?_
  rintro e w3 ⟨q3, d3, rfl, ht, hb⟩
  have hal : Below w3.heap.size w3 (w3.alloc (.cells #[.string ⟨#[97]⟩, .bool true, .int .i64 3, .slice q3 1 d3] TP)) := (Below.refl _ _).alloc (Nat.le_refl _) _
  obtain ⟨w4, hw4⟩ : ∃ w4, w3.alloc (.cells #[.string ⟨#[97]⟩, .bool true, .int .i64 3, .slice q3 1 d3] TP) = w4 := ⟨_, rfl⟩
  rw [hw4] at hal
  have HB3 := Lib.hid (seqB (seqB HB2.out hb) hal)
  have HP3 := Lib.hid ((HP2.out.on hb).on hal)
  have H4 := Lib.hid (al_lines w4 (gc.ORow.on ht hal) (gx.tab_on HT.out HB3.out))
  have HW := Lib.hid hw4
  clear hb hal ht hw4 H3 HP2 HB2
  go_wp2_with fail
  rw [HW.out]
  refine H4.out.mono ?_
  rintro e w5 ⟨q5, m5, d5, rfl, hs, hb⟩
  obtain rfl : m5 = 2 := hs.len.symm
  have HB5 := Lib.hid (seqB HB3.out hb)
  have HP5 := Lib.hid (HP3.out.on hb)
  have H5 := Lib.hid (al_drop w5 HP5.out)
  have HS5 := Lib.hid hs
  clear hb hs H4 HP3 HB3 HW
  go_wp2_with fail
  refine H5.out.mono ?_
  rintro e w6 ⟨q6, n6, c6, rfl, _, hb⟩
  have HB6 := Lib.hid (seqB HB5.out hb)
  have HP6 := Lib.hid (HP5.out.on hb)
  have hs := gx.own_on HS5.out hb
  obtain ⟨b5, rfl, _, _, hmd, hd63⟩ := gx.Strs.form hs (by decide)
  have s0 := gx.Strs.at hs 0 (by decide)
  have s1 := gx.Strs.at hs 1 (by decide)
  simp only [List.getD_cons_zero, List.getD_cons_succ] at s0 s1
  have H6 := Lib.hid (al_right w6 HP6.out)
  clear hb hs HS5 H5 HP5 HB5
  go_wp2_with fail
  refine H6.out.mono ?_
  rintro e w7 ⟨rfl, hb⟩
  have HB7 := Lib.hid (seqB HB6.out hb)
  have H7 := Lib.hid (al_same w7 (HP6.out.on hb))
  clear hb H6 HP6 HB6 s0 s1
  go_wp2_with fail
  refine H7.out.mono ?_
  rintro e w8 ⟨rfl, hb⟩
  have HB8 := Lib.hid (seqB HB7.out hb)
  clear hb H7 HB7
  go_wp2_with fail
  go_ret
  exact ⟨rfl, HB8.out⟩
end
end Go.Proofs.YtmghkcjljnlocaaGreatDoor

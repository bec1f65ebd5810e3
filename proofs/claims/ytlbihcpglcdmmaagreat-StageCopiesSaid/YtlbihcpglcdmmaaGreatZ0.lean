/-
  Contracts: New of the document. Conditions: as each states.
  Contracts: New of the document. Conditions: as each states.
-/
import Derived.Test.YtlbihcpglcdmmaaGreatZY
namespace Go.Proofs.YtlbihcpglcdmmaaGreat
open Go.RowKit

attribute [local go_sem ↓] to_loadR to_storeR
attribute [local go_sem] run_loadR run_storeR rval
variable {w w' : World} {q n c : Nat} {p : Option Addr} {s s' : St}
set_option maxRecDepth 100000 in
set_option maxHeartbeats 8000000 in
theorem rnew_room_f (t : Tox) (_ht : t.s.size ≤ maxLen) (seed room now : Int) (w : World) (h0 : t = noTox) (hr : room < 1 ∨ 4096 < room) : Calls Tryz.prog 5 #[.agg #[.string t.s, .int .i64 t.k, .bool t.up, .int .i64 t.o, .int .i64 t.a, .int .i64 t.b], .int .u64 seed, .int .i64 room, .int .i64 now] w (RNo 1 w) := by
  have HPS := Lib.hid (fun W => show Calls Tryz.prog 17 #[.agg #[.string t.s, .int .i64 t.k, .bool t.up, .int .i64 t.o, .int .i64 t.a, .int .i64 t.b]] W fun e w' => e = .returned (.bool true) ∧ Below W.heap.size W w' from by rw [h0]; exact rpass_yes W)
  have HRM := Lib.hid hr
  clear h0 hr
  obtain ⟨W0, hW0, ha0, hr0, hb0⟩ := newtwo w t
  have hW0 : (w.alloc (.cells #[.string t.s, .int .i64 t.k, .bool t.up, .int .i64 t.o, .int .i64 t.a, .int .i64 t.b] 23)).alloc (.cells #[.string ⟨#[]⟩, .int .i64 0, .bool false, .int .i64 0, .int .i64 0, .int .i64 0, .int .u64 0, .int .i64 0, .int .i64 0, .int .i64 0, .int .i64 0, .string ⟨#[]⟩, .slice none 0 0, .int .i64 0, .int .i64 0, .int .i64 0, .int .i64 0, .int .i64 0, .int .i64 0, .bool false, .int .i64 0, .int .i64 0] 38) = W0 := hW0
  have hsz := hr0.lt
  obtain ⟨y0, y1, y2, y3, y4, y5⟩ := ha0.cell
  have HT := Lib.hid ha0
  have HR := Lib.hid hr0
  have HB := Lib.hid hb0
  clear ha0 hr0 hb0
  go_enter Tryz.func5, Tryz.ntmps5
  go_wp2_with fail
  clear hW0
  refine (HPS.out _).mono ?_
  rintro e w1 ⟨rfl, hb1⟩
  have HT1 := Lib.hid (HT.out.on hb1)
  have HR1 := Lib.hid (HR.out.on hb1)
  have HB1 := Lib.hid (gb.seqB HB.out hb1)
  clear hb1 HT HR HB y0 y1 y2 y3 y4 y5
  obtain ⟨y0, y1, y2, y3, y4, y5⟩ := HT1.out.cell
  rcases HRM.out with hr | hr
  · have c1 : decide (room < 1) = true := by simpa using hr
    clear hr
    go_upto_region 4 with fail
    clear c1
    have hv : RVal #[.string ⟨#[]⟩, .int .i64 0, .bool false, .int .i64 0, .int .i64 0, .int .i64 0, .int .u64 0, .int .i64 0, .int .i64 0, .int .i64 0, .int .i64 0, .string ⟨#[]⟩, .slice none 0 0, .int .i64 0, .int .i64 0, .int .i64 0, .int .i64 0, .int .i64 0, .int .i64 0, .bool false, .int .i64 0, .int .i64 0] := rval none 0 0 noSt
    have i2 := HR1.out.is
    have hz := HR1.out.row none 0 0 noSt
    have hb := below_setRow HB1.out (Nat.le_succ w.heap.size) (rC none 0 0 noSt)
    have HZ := Lib.hid hz
    have HE := Lib.hid hb
    clear hz hb
    go_wp2_with fail
    generalize hWf : w1.setRow (w.heap.size + 1) (rC none 0 0 noSt) = wz at *
    unfold rC noSt noTox at hWf
    dsimp only at hWf
    try rw [hWf]
    exact bodyPost_ret (v := .tuple #[.agg (rC none 0 0 noSt), .int .i64 1]) (by simp [results, Tryz.results5, asAddr, loadVar_R HZ.out]) rfl ⟨rfl, HE.out⟩
  · have c1 : decide (room < 1) = false := by simp; omega
    have c2 : decide (4096 < room) = true := by simpa using hr
    clear hr
    go_upto_region 4 with fail
    clear c1 c2
    have hv : RVal #[.string ⟨#[]⟩, .int .i64 0, .bool false, .int .i64 0, .int .i64 0, .int .i64 0, .int .u64 0, .int .i64 0, .int .i64 0, .int .i64 0, .int .i64 0, .string ⟨#[]⟩, .slice none 0 0, .int .i64 0, .int .i64 0, .int .i64 0, .int .i64 0, .int .i64 0, .int .i64 0, .bool false, .int .i64 0, .int .i64 0] := rval none 0 0 noSt
    have i2 := HR1.out.is
    have hz := HR1.out.row none 0 0 noSt
    have hb := below_setRow HB1.out (Nat.le_succ w.heap.size) (rC none 0 0 noSt)
    have HZ := Lib.hid hz
    have HE := Lib.hid hb
    clear hz hb
    go_wp2_with fail
    generalize hWf : w1.setRow (w.heap.size + 1) (rC none 0 0 noSt) = wz at *
    unfold rC noSt noTox at hWf
    dsimp only at hWf
    try rw [hWf]
    exact bodyPost_ret (v := .tuple #[.agg (rC none 0 0 noSt), .int .i64 1]) (by simp [results, Tryz.results5, asAddr, loadVar_R HZ.out]) rfl ⟨rfl, HE.out⟩
set_option maxRecDepth 100000 in
set_option maxHeartbeats 8000000 in
theorem rnew_ok_f (t : Tox) (_ht : t.s.size ≤ maxLen) (seed room now : Int) (w : World) (h0 : t = noTox) (hr : 1 ≤ room ∧ room ≤ 4096) : Calls Tryz.prog 5 #[.agg #[.string t.s, .int .i64 t.k, .bool t.up, .int .i64 t.o, .int .i64 t.a, .int .i64 t.b], .int .u64 seed, .int .i64 room, .int .i64 now] w (RYes (newS t seed room now) w) := by
  have HPS := Lib.hid (fun W => show Calls Tryz.prog 17 #[.agg #[.string t.s, .int .i64 t.k, .bool t.up, .int .i64 t.o, .int .i64 t.a, .int .i64 t.b]] W fun e w' => e = .returned (.bool true) ∧ Below W.heap.size W w' from by rw [h0]; exact rpass_yes W)
  have hk : t.k ≠ 2 := by rw [h0]; decide
  have HEQ := Lib.hid (show newS t seed room now = ⟨t, seed, ⟨0, 0, 0, 0⟩, ⟨#[]⟩, [], 0, room, gb.near now, gb.near now, 0, 0, false, 0, 0⟩ by unfold newS; rw [if_neg hk])
  have e5 : (t.k == 2) = false := by simpa using hk
  have e6 : decide (t.k = 2) = false := by simpa using hk
  clear h0 hk
  have HNR := Lib.hid (fun W => gb.rnear_any now W)
  have HRM := Lib.hid hr
  clear hr
  obtain ⟨W0, hW0, ha0, hr0, hb0⟩ := newtwo w t
  have hW0 : (w.alloc (.cells #[.string t.s, .int .i64 t.k, .bool t.up, .int .i64 t.o, .int .i64 t.a, .int .i64 t.b] 23)).alloc (.cells #[.string ⟨#[]⟩, .int .i64 0, .bool false, .int .i64 0, .int .i64 0, .int .i64 0, .int .u64 0, .int .i64 0, .int .i64 0, .int .i64 0, .int .i64 0, .string ⟨#[]⟩, .slice none 0 0, .int .i64 0, .int .i64 0, .int .i64 0, .int .i64 0, .int .i64 0, .int .i64 0, .bool false, .int .i64 0, .int .i64 0] 38) = W0 := hW0
  have hsz := hr0.lt
  obtain ⟨y0, y1, y2, y3, y4, y5⟩ := ha0.cell
  have HT := Lib.hid ha0
  have HR := Lib.hid hr0
  have HB := Lib.hid hb0
  clear ha0 hr0 hb0
  go_enter Tryz.func5, Tryz.ntmps5
  go_wp2_with fail
  clear hW0
  refine (HPS.out _).mono ?_
  rintro e w1 ⟨rfl, hb1⟩
  have HT1 := Lib.hid (HT.out.on hb1)
  have HR1 := Lib.hid (HR.out.on hb1)
  have HB1 := Lib.hid (gb.seqB HB.out hb1)
  clear hb1 HT HR HB y0 y1 y2 y3 y4 y5
  obtain ⟨y0, y1, y2, y3, y4, y5⟩ := HT1.out.cell
  have c1 : decide (room < 1) = false := by have := HRM.out; simp; omega
  have c2 : decide (4096 < room) = false := by have := HRM.out; simp; omega
  go_wp2_with fail
  refine (HNR.out _).mono ?_
  rintro e w8 ⟨rfl, rfl⟩
  clear c1 c2 HNR
  have hra := rat_alloc w1 none 0 0 noSt
  have hba : Below w1.heap.size w1 (w1.alloc (.cells (rC none 0 0 noSt) 38)) := (Below.refl _ _).alloc (Nat.le_refl _) _
  obtain ⟨W5, hW5⟩ : ∃ W5, w1.alloc (.cells (rC none 0 0 noSt) 38) = W5 := ⟨_, rfl⟩
  rw [hW5] at hra hba
  have hW5 : w1.alloc (.cells #[.string ⟨#[]⟩, .int .i64 0, .bool false, .int .i64 0, .int .i64 0, .int .i64 0, .int .u64 0, .int .i64 0, .int .i64 0, .int .i64 0, .int .i64 0, .string ⟨#[]⟩, .slice none 0 0, .int .i64 0, .int .i64 0, .int .i64 0, .int .i64 0, .int .i64 0, .int .i64 0, .bool false, .int .i64 0, .int .i64 0] 38) = W5 := hW5
  have i5 := hra.is
  have hlt5 := hra.lt
  have hv2 : RVal #[.string t.s, .int .i64 t.k, .bool t.up, .int .i64 t.o, .int .i64 t.a, .int .i64 t.b, .int .u64 seed, .int .i64 0, .int .i64 0, .int .i64 0, .int .i64 0, .string ⟨#[]⟩, .slice none 0 0, .int .i64 0, .int .i64 room, .int .i64 (gb.near now), .int .i64 (gb.near now), .int .i64 0, .int .i64 0, .bool false, .int .i64 0, .int .i64 0] := rval none 0 0 (⟨t, seed, ⟨0, 0, 0, 0⟩, ⟨#[]⟩, [], 0, room, gb.near now, gb.near now, 0, 0, false, 0, 0⟩ : St)
  have HG := Lib.hid (hra.row none 0 0 (⟨t, seed, ⟨0, 0, 0, 0⟩, ⟨#[]⟩, [], 0, room, gb.near now, gb.near now, 0, 0, false, 0, 0⟩ : St))
  have hb6 := below_setRow hba (Nat.le_refl _) (rC none 0 0 (⟨t, seed, ⟨0, 0, 0, 0⟩, ⟨#[]⟩, [], 0, room, gb.near now, gb.near now, 0, 0, false, 0, 0⟩ : St))
  have HTG := Lib.hid (HT1.out.on hb6)
  have HRG := Lib.hid (HR1.out.on hb6)
  have HBG := Lib.hid (gb.seqB HB1.out hb6)
  have hgs : w.heap.size < w1.heap.size := HT1.out.lt
  have HGS := Lib.hid (show w.heap.size ≤ w1.heap.size ∧ w.heap.size + 1 ≠ w1.heap.size by have := HR1.out.lt; omega)
  clear hra hba hb6 HT1 HR1 HB1
  go_upto_region 7 with fail
  generalize hW6 : W5.setRow w1.heap.size (rC none 0 0 (⟨t, seed, ⟨0, 0, 0, 0⟩, ⟨#[]⟩, [], 0, room, gb.near now, gb.near now, 0, 0, false, 0, 0⟩ : St)) = w6 at *
  unfold rC at hW6
  dsimp only at hW6
  rw [hW6]
  clear hW6 i5 hlt5 hW5 hv2 y0 y1 y2 y3 y4 y5 hgs
  generalize w1.heap.size = g at *
  obtain ⟨_, y1, _, _, y4, y5⟩ := HTG.out.cell
  go_upto_region 10 with fail
  clear y1 y4 y5 e5 e6
  have i1 := HG.out.is
  have k1 := HG.out.cells
  have i2 := HRG.out.is
  have hz := HRG.out.row none 0 0 (⟨t, seed, ⟨0, 0, 0, 0⟩, ⟨#[]⟩, [], 0, room, gb.near now, gb.near now, 0, 0, false, 0, 0⟩ : St)
  have hb := below_setRow HBG.out (Nat.le_succ w.heap.size) (rC none 0 0 (⟨t, seed, ⟨0, 0, 0, 0⟩, ⟨#[]⟩, [], 0, room, gb.near now, gb.near now, 0, 0, false, 0, 0⟩ : St))
  have HZ := Lib.hid hz
  have HE := Lib.hid hb
  clear hz hb
  go_wp2_with fail
  generalize w6.setRow (w.heap.size + 1) (rC none 0 0 (⟨t, seed, ⟨0, 0, 0, 0⟩, ⟨#[]⟩, [], 0, room, gb.near now, gb.near now, 0, 0, false, 0, 0⟩ : St)) = wz at *
  exact bodyPost_ret (v := .tuple #[.agg (rC none 0 0 (⟨t, seed, ⟨0, 0, 0, 0⟩, ⟨#[]⟩, [], 0, room, gb.near now, gb.near now, 0, 0, false, 0, 0⟩ : St)), .int .i64 0]) (by simp [results, Tryz.results5, asAddr, loadVar_R HZ.out]) rfl ⟨by rw [HEQ.out], HE.out⟩
set_option maxRecDepth 100000 in
set_option maxHeartbeats 8000000 in
theorem rnew_ok_t (t : Tox) (ht : t.s.size ≤ maxLen) (seed room now : Int) (w : World) (hE : t.chk = 0) (h0 : t ≠ noTox) (hk : t.k ≠ 2) (hr : 1 ≤ room ∧ room ≤ 4096) : Calls Tryz.prog 5 #[.agg #[.string t.s, .int .i64 t.k, .bool t.up, .int .i64 t.o, .int .i64 t.a, .int .i64 t.b], .int .u64 seed, .int .i64 room, .int .i64 now] w (RYes (newS t seed room now) w) := by
  have HPS := Lib.hid (fun W => pass10 t h0 W)
  have HCK := Lib.hid (fun W => chk10 t ht W hE)
  have HEQ := Lib.hid (show newS t seed room now = ⟨t, seed, ⟨0, 0, 0, 0⟩, ⟨#[]⟩, [], 0, room, gb.near now, gb.near now, 0, 0, false, 0, 0⟩ by unfold newS; rw [if_neg hk])
  have e5 : (t.k == 2) = false := by simpa using hk
  have e6 : decide (t.k = 2) = false := by simpa using hk
  clear hE ht h0 hk
  have HNR := Lib.hid (fun W => gb.rnear_any now W)
  have HRM := Lib.hid hr
  clear hr
  obtain ⟨W0, hW0, ha0, hr0, hb0⟩ := newtwo w t
  have hW0 : (w.alloc (.cells #[.string t.s, .int .i64 t.k, .bool t.up, .int .i64 t.o, .int .i64 t.a, .int .i64 t.b] 23)).alloc (.cells #[.string ⟨#[]⟩, .int .i64 0, .bool false, .int .i64 0, .int .i64 0, .int .i64 0, .int .u64 0, .int .i64 0, .int .i64 0, .int .i64 0, .int .i64 0, .string ⟨#[]⟩, .slice none 0 0, .int .i64 0, .int .i64 0, .int .i64 0, .int .i64 0, .int .i64 0, .int .i64 0, .bool false, .int .i64 0, .int .i64 0] 38) = W0 := hW0
  have hsz := hr0.lt
  obtain ⟨y0, y1, y2, y3, y4, y5⟩ := ha0.cell
  have HT := Lib.hid ha0
  have HR := Lib.hid hr0
  have HB := Lib.hid hb0
  clear ha0 hr0 hb0
  go_enter Tryz.func5, Tryz.ntmps5
  go_wp2_with fail
  clear hW0
  refine (HPS.out _).mono ?_
  rintro e w1 ⟨rfl, hb1⟩
  have HT1 := Lib.hid (HT.out.on hb1)
  have HR1 := Lib.hid (HR.out.on hb1)
  have HB1 := Lib.hid (gb.seqB HB.out hb1)
  clear hb1 HT HR HB y0 y1 y2 y3 y4 y5
  obtain ⟨y0, y1, y2, y3, y4, y5⟩ := HT1.out.cell
  go_wp2_with fail
  refine (HCK.out _).mono ?_
  rintro e w2 ⟨rfl, hb2⟩
  have HT2 := Lib.hid (HT1.out.on hb2)
  have HR2 := Lib.hid (HR1.out.on hb2)
  have HB2 := Lib.hid (gb.seqB HB1.out hb2)
  clear hb2 HT1 HR1 HB1 y0 y1 y2 y3 y4 y5
  obtain ⟨y0, y1, y2, y3, y4, y5⟩ := HT2.out.cell
  have c1 : decide (room < 1) = false := by have := HRM.out; simp; omega
  have c2 : decide (4096 < room) = false := by have := HRM.out; simp; omega
  go_wp2_with fail
  refine (HNR.out _).mono ?_
  rintro e w8 ⟨rfl, rfl⟩
  clear c1 c2 HNR
  have hra := rat_alloc w2 none 0 0 noSt
  have hba : Below w2.heap.size w2 (w2.alloc (.cells (rC none 0 0 noSt) 38)) := (Below.refl _ _).alloc (Nat.le_refl _) _
  obtain ⟨W5, hW5⟩ : ∃ W5, w2.alloc (.cells (rC none 0 0 noSt) 38) = W5 := ⟨_, rfl⟩
  rw [hW5] at hra hba
  have hW5 : w2.alloc (.cells #[.string ⟨#[]⟩, .int .i64 0, .bool false, .int .i64 0, .int .i64 0, .int .i64 0, .int .u64 0, .int .i64 0, .int .i64 0, .int .i64 0, .int .i64 0, .string ⟨#[]⟩, .slice none 0 0, .int .i64 0, .int .i64 0, .int .i64 0, .int .i64 0, .int .i64 0, .int .i64 0, .bool false, .int .i64 0, .int .i64 0] 38) = W5 := hW5
  have i5 := hra.is
  have hlt5 := hra.lt
  have hv2 : RVal #[.string t.s, .int .i64 t.k, .bool t.up, .int .i64 t.o, .int .i64 t.a, .int .i64 t.b, .int .u64 seed, .int .i64 0, .int .i64 0, .int .i64 0, .int .i64 0, .string ⟨#[]⟩, .slice none 0 0, .int .i64 0, .int .i64 room, .int .i64 (gb.near now), .int .i64 (gb.near now), .int .i64 0, .int .i64 0, .bool false, .int .i64 0, .int .i64 0] := rval none 0 0 (⟨t, seed, ⟨0, 0, 0, 0⟩, ⟨#[]⟩, [], 0, room, gb.near now, gb.near now, 0, 0, false, 0, 0⟩ : St)
  have HG := Lib.hid (hra.row none 0 0 (⟨t, seed, ⟨0, 0, 0, 0⟩, ⟨#[]⟩, [], 0, room, gb.near now, gb.near now, 0, 0, false, 0, 0⟩ : St))
  have hb6 := below_setRow hba (Nat.le_refl _) (rC none 0 0 (⟨t, seed, ⟨0, 0, 0, 0⟩, ⟨#[]⟩, [], 0, room, gb.near now, gb.near now, 0, 0, false, 0, 0⟩ : St))
  have HTG := Lib.hid (HT2.out.on hb6)
  have HRG := Lib.hid (HR2.out.on hb6)
  have HBG := Lib.hid (gb.seqB HB2.out hb6)
  have hgs : w.heap.size < w2.heap.size := HT2.out.lt
  have HGS := Lib.hid (show w.heap.size ≤ w2.heap.size ∧ w.heap.size + 1 ≠ w2.heap.size by have := HR2.out.lt; omega)
  clear hra hba hb6 HT2 HR2 HB2
  go_upto_region 7 with fail
  generalize hW6 : W5.setRow w2.heap.size (rC none 0 0 (⟨t, seed, ⟨0, 0, 0, 0⟩, ⟨#[]⟩, [], 0, room, gb.near now, gb.near now, 0, 0, false, 0, 0⟩ : St)) = w6 at *
  unfold rC at hW6
  dsimp only at hW6
  rw [hW6]
  clear hW6 i5 hlt5 hW5 hv2 y0 y1 y2 y3 y4 y5 hgs
  generalize w2.heap.size = g at *
  obtain ⟨_, y1, _, _, y4, y5⟩ := HTG.out.cell
  go_upto_region 10 with fail
  clear y1 y4 y5 e5 e6
  have i1 := HG.out.is
  have k1 := HG.out.cells
  have i2 := HRG.out.is
  have hz := HRG.out.row none 0 0 (⟨t, seed, ⟨0, 0, 0, 0⟩, ⟨#[]⟩, [], 0, room, gb.near now, gb.near now, 0, 0, false, 0, 0⟩ : St)
  have hb := below_setRow HBG.out (Nat.le_succ w.heap.size) (rC none 0 0 (⟨t, seed, ⟨0, 0, 0, 0⟩, ⟨#[]⟩, [], 0, room, gb.near now, gb.near now, 0, 0, false, 0, 0⟩ : St))
  have HZ := Lib.hid hz
  have HE := Lib.hid hb
  clear hz hb
  go_wp2_with fail
  generalize w6.setRow (w.heap.size + 1) (rC none 0 0 (⟨t, seed, ⟨0, 0, 0, 0⟩, ⟨#[]⟩, [], 0, room, gb.near now, gb.near now, 0, 0, false, 0, 0⟩ : St)) = wz at *
  exact bodyPost_ret (v := .tuple #[.agg (rC none 0 0 (⟨t, seed, ⟨0, 0, 0, 0⟩, ⟨#[]⟩, [], 0, room, gb.near now, gb.near now, 0, 0, false, 0, 0⟩ : St)), .int .i64 0]) (by simp [results, Tryz.results5, asAddr, loadVar_R HZ.out]) rfl ⟨by rw [HEQ.out], HE.out⟩
end Go.Proofs.YtlbihcpglcdmmaaGreat
namespace Go.Proofs.YtlbihcpglcdmmaaGreat
open Go.RowKit

attribute [local go_sem ↓] to_loadR to_storeR
attribute [local go_sem] run_loadR run_storeR rval
variable {w w' : World} {q n c : Nat} {p : Option Addr} {s s' : St}
set_option maxRecDepth 100000 in
set_option maxHeartbeats 8000000 in
theorem rnew_ok_b (t : Tox) (ht : t.s.size ≤ maxLen) (seed room now : Int) (w : World) (hE : t.chk = 0) (h0 : t ≠ noTox) (hk : t.k = 2) (hr : 1 ≤ room ∧ room ≤ 4096) : Calls Tryz.prog 5 #[.agg #[.string t.s, .int .i64 t.k, .bool t.up, .int .i64 t.o, .int .i64 t.a, .int .i64 t.b], .int .u64 seed, .int .i64 room, .int .i64 now] w (RYes (newS t seed room now) w) := by
  have HPS := Lib.hid (fun W => pass10 t h0 W)
  have HCK := Lib.hid (fun W => chk10 t ht W hE)
  have HEQ := Lib.hid (show newS t seed room now = ⟨t, seed, ⟨t.a, t.b, t.b, gb.near now⟩, ⟨#[]⟩, [], 0, room, gb.near now, gb.near now, 0, 0, false, 0, 0⟩ by unfold newS; rw [if_pos hk])
  have HE5 := Lib.hid (show (t.k == 2) = true by simpa using hk)
  have HE6 := Lib.hid (show decide (t.k = 2) = true by simpa using hk)
  have hrn : gb.rightB t.a t.b t.b (gb.near now) = true := by rw [← tick_zero]; exact bw_right hE hk now
  have HNB := Lib.hid (fun W => gb.rnew_b hrn W)
  clear hE ht h0 hk hrn
  have HNR := Lib.hid (fun W => gb.rnear_any now W)
  have HRM := Lib.hid hr
  clear hr
  obtain ⟨W0, hW0, ha0, hr0, hb0⟩ := newtwo w t
  have hW0 : (w.alloc (.cells #[.string t.s, .int .i64 t.k, .bool t.up, .int .i64 t.o, .int .i64 t.a, .int .i64 t.b] 23)).alloc (.cells #[.string ⟨#[]⟩, .int .i64 0, .bool false, .int .i64 0, .int .i64 0, .int .i64 0, .int .u64 0, .int .i64 0, .int .i64 0, .int .i64 0, .int .i64 0, .string ⟨#[]⟩, .slice none 0 0, .int .i64 0, .int .i64 0, .int .i64 0, .int .i64 0, .int .i64 0, .int .i64 0, .bool false, .int .i64 0, .int .i64 0] 38) = W0 := hW0
  have hsz := hr0.lt
  obtain ⟨y0, y1, y2, y3, y4, y5⟩ := ha0.cell
  have HT := Lib.hid ha0
  have HR := Lib.hid hr0
  have HB := Lib.hid hb0
  clear ha0 hr0 hb0
  go_enter Tryz.func5, Tryz.ntmps5
  go_wp2_with fail
  clear hW0
  refine (HPS.out _).mono ?_
  rintro e w1 ⟨rfl, hb1⟩
  have HT1 := Lib.hid (HT.out.on hb1)
  have HR1 := Lib.hid (HR.out.on hb1)
  have HB1 := Lib.hid (gb.seqB HB.out hb1)
  clear hb1 HT HR HB y0 y1 y2 y3 y4 y5
  obtain ⟨y0, y1, y2, y3, y4, y5⟩ := HT1.out.cell
  go_wp2_with fail
  refine (HCK.out _).mono ?_
  rintro e w2 ⟨rfl, hb2⟩
  have HT2 := Lib.hid (HT1.out.on hb2)
  have HR2 := Lib.hid (HR1.out.on hb2)
  have HB2 := Lib.hid (gb.seqB HB1.out hb2)
  clear hb2 HT1 HR1 HB1 y0 y1 y2 y3 y4 y5
  obtain ⟨y0, y1, y2, y3, y4, y5⟩ := HT2.out.cell
  have c1 : decide (room < 1) = false := by have := HRM.out; simp; omega
  have c2 : decide (4096 < room) = false := by have := HRM.out; simp; omega
  go_wp2_with fail
  refine (HNR.out _).mono ?_
  rintro e w8 ⟨rfl, rfl⟩
  clear c1 c2 HNR
  have hra := rat_alloc w2 none 0 0 noSt
  have hba : Below w2.heap.size w2 (w2.alloc (.cells (rC none 0 0 noSt) 38)) := (Below.refl _ _).alloc (Nat.le_refl _) _
  obtain ⟨W5, hW5⟩ : ∃ W5, w2.alloc (.cells (rC none 0 0 noSt) 38) = W5 := ⟨_, rfl⟩
  rw [hW5] at hra hba
  have hW5 : w2.alloc (.cells #[.string ⟨#[]⟩, .int .i64 0, .bool false, .int .i64 0, .int .i64 0, .int .i64 0, .int .u64 0, .int .i64 0, .int .i64 0, .int .i64 0, .int .i64 0, .string ⟨#[]⟩, .slice none 0 0, .int .i64 0, .int .i64 0, .int .i64 0, .int .i64 0, .int .i64 0, .int .i64 0, .bool false, .int .i64 0, .int .i64 0] 38) = W5 := hW5
  have i5 := hra.is
  have hlt5 := hra.lt
  have hv2 : RVal #[.string t.s, .int .i64 t.k, .bool t.up, .int .i64 t.o, .int .i64 t.a, .int .i64 t.b, .int .u64 seed, .int .i64 0, .int .i64 0, .int .i64 0, .int .i64 0, .string ⟨#[]⟩, .slice none 0 0, .int .i64 0, .int .i64 room, .int .i64 (gb.near now), .int .i64 (gb.near now), .int .i64 0, .int .i64 0, .bool false, .int .i64 0, .int .i64 0] := rval none 0 0 (⟨t, seed, ⟨0, 0, 0, 0⟩, ⟨#[]⟩, [], 0, room, gb.near now, gb.near now, 0, 0, false, 0, 0⟩ : St)
  have HG := Lib.hid (hra.row none 0 0 (⟨t, seed, ⟨0, 0, 0, 0⟩, ⟨#[]⟩, [], 0, room, gb.near now, gb.near now, 0, 0, false, 0, 0⟩ : St))
  have hb6 := below_setRow hba (Nat.le_refl _) (rC none 0 0 (⟨t, seed, ⟨0, 0, 0, 0⟩, ⟨#[]⟩, [], 0, room, gb.near now, gb.near now, 0, 0, false, 0, 0⟩ : St))
  have HTG := Lib.hid (HT2.out.on hb6)
  have HRG := Lib.hid (HR2.out.on hb6)
  have HBG := Lib.hid (gb.seqB HB2.out hb6)
  have hgs : w.heap.size < w2.heap.size := HT2.out.lt
  have HGS := Lib.hid (show w.heap.size ≤ w2.heap.size ∧ w.heap.size + 1 ≠ w2.heap.size by have := HR2.out.lt; omega)
  clear hra hba hb6 HT2 HR2 HB2
  go_upto_region 7 with fail
  generalize hW6 : W5.setRow w2.heap.size (rC none 0 0 (⟨t, seed, ⟨0, 0, 0, 0⟩, ⟨#[]⟩, [], 0, room, gb.near now, gb.near now, 0, 0, false, 0, 0⟩ : St)) = w6 at *
  unfold rC at hW6
  dsimp only at hW6
  rw [hW6]
  clear hW6 i5 hlt5 hW5 hv2 y0 y1 y2 y3 y4 y5 hgs
  generalize w2.heap.size = g at *
  obtain ⟨_, y1, _, _, y4, y5⟩ := HTG.out.cell
  have e5 := HE5.out
  have e6 := HE6.out
  go_wp2_with fail
  clear y1 y4 y5 e5 e6
  refine (HNB.out _).mono ?_
  rintro e w7 ⟨rfl, hb7⟩
  have hal : Below w7.heap.size w7 (w7.alloc (.cells #[.int .i64 0, .int .i64 0, .int .i64 0, .int .i64 0] 33)) := (Below.refl _ _).alloc (Nat.le_refl _) _
  have hbl := heap_alloc_new w7 (.cells #[.int .i64 0, .int .i64 0, .int .i64 0, .int .i64 0] 33)
  obtain ⟨W8, hW8⟩ : ∃ W8, w7.alloc (.cells #[.int .i64 0, .int .i64 0, .int .i64 0, .int .i64 0] 33) = W8 := ⟨_, rfl⟩
  rw [hW8] at hal hbl
  have hst := gb.set4_below (w := W8) hal (Nat.le_refl _) (.int .i64 t.a) (.int .i64 t.b) (.int .i64 t.b) (.int .i64 (gb.near now))
  have hs4 := gb.set4_heap hbl (.int .i64 t.a) (.int .i64 t.b) (.int .i64 t.b) (.int .i64 (gb.near now))
  have z0 : W8.cell? ⟨w7.heap.size, 0, none⟩ = some (.int .i64 0) := cell_of_row _ _ 0 _ _ _ hbl
  have z1 : W8.cell? ⟨w7.heap.size, 1, none⟩ = some (.int .i64 0) := cell_of_row _ _ 1 _ _ _ hbl
  have z2 : W8.cell? ⟨w7.heap.size, 2, none⟩ = some (.int .i64 0) := cell_of_row _ _ 2 _ _ _ hbl
  have z3 : W8.cell? ⟨w7.heap.size, 3, none⟩ = some (.int .i64 0) := cell_of_row _ _ 3 _ _ _ hbl
  have g0 : W8.frozen? ⟨w7.heap.size, 0, none⟩ = false := gb.frozen_at hbl
  have g1 : W8.frozen? ⟨w7.heap.size, 1, none⟩ = false := gb.frozen_at hbl
  have g2 : W8.frozen? ⟨w7.heap.size, 2, none⟩ = false := gb.frozen_at hbl
  have g3 : W8.frozen? ⟨w7.heap.size, 3, none⟩ = false := gb.frozen_at hbl
  have hlt2 := gb.blk_lt hbl
  have HG9 := Lib.hid (HG.out.on (gb.seqB hb7 hst))
  have HR9 := Lib.hid (HRG.out.on (gb.seqB hb7 hst))
  have HB9 := Lib.hid (gb.seqB HBG.out (gb.seqB hb7 hst))
  have HC9 := Lib.hid hs4
  clear hb7 hal hbl hst hs4 HNB HG HRG HBG HTG
  go_upto_region 9 with fail
  generalize hW9 : gb.set4 W8 w7.heap.size (.int .i64 t.a) (.int .i64 t.b) (.int .i64 t.b) (.int .i64 (gb.near now)) = w9 at *
  unfold gb.set4 at hW9
  rw [hW9]
  clear hW9 z0 z1 z2 z3 g0 g1 g2 g3 hlt2 hW8
  generalize w7.heap.size = gg at *
  have y0 : w9.cell? ⟨gg, 0, none⟩ = some (.int .i64 t.a) := cell_of_row _ _ 0 _ _ _ HC9.out
  have y1 : w9.cell? ⟨gg, 1, none⟩ = some (.int .i64 t.b) := cell_of_row _ _ 1 _ _ _ HC9.out
  have y2 : w9.cell? ⟨gg, 2, none⟩ = some (.int .i64 t.b) := cell_of_row _ _ 2 _ _ _ HC9.out
  have y3 : w9.cell? ⟨gg, 3, none⟩ = some (.int .i64 (gb.near now)) := cell_of_row _ _ 3 _ _ _ HC9.out
  have u7 : w9.cell? ⟨g, 7, none⟩ = some (.int .i64 0) := HG9.out.cell 7
  have u8 : w9.cell? ⟨g, 8, none⟩ = some (.int .i64 0) := HG9.out.cell 8
  have u9 : w9.cell? ⟨g, 9, none⟩ = some (.int .i64 0) := HG9.out.cell 9
  have u10 : w9.cell? ⟨g, 10, none⟩ = some (.int .i64 0) := HG9.out.cell 10
  have v7 := HG9.out.frz 7
  have v8 := HG9.out.frz 8
  have v9 := HG9.out.frz 9
  have v10 := HG9.out.frz 10
  have HGA := Lib.hid (show RAt (putB w9 g ⟨t.a, t.b, t.b, gb.near now⟩) g none 0 0 (⟨t, seed, ⟨t.a, t.b, t.b, gb.near now⟩, ⟨#[]⟩, [], 0, room, gb.near now, gb.near now, 0, 0, false, 0, 0⟩ : St) from HG9.out.putB ⟨t.a, t.b, t.b, gb.near now⟩)
  have HRA := Lib.hid (show RAt (putB w9 g ⟨t.a, t.b, t.b, gb.near now⟩) (w.heap.size + 1) none 0 0 noSt from (putB_far HGS.out.2 _).trans HR9.out)
  have HBA := Lib.hid (putB_below HB9.out HGS.out.1 ⟨t.a, t.b, t.b, gb.near now⟩)
  go_upto_region 10 with fail
  generalize hWA : putB w9 g ⟨t.a, t.b, t.b, gb.near now⟩ = wA at *
  unfold Go.Proofs.YtlbihcpglcdmmaaGreat.putB at hWA
  dsimp only at hWA
  rw [hWA]
  clear hWA y0 y1 y2 y3 u7 u8 u9 u10 v7 v8 v9 v10 HG9 HR9 HB9 HC9
  have i1 := HGA.out.is
  have k1 := HGA.out.cells
  have i2 := HRA.out.is
  have hz := HRA.out.row none 0 0 (⟨t, seed, ⟨t.a, t.b, t.b, gb.near now⟩, ⟨#[]⟩, [], 0, room, gb.near now, gb.near now, 0, 0, false, 0, 0⟩ : St)
  have hb := below_setRow HBA.out (Nat.le_succ w.heap.size) (rC none 0 0 (⟨t, seed, ⟨t.a, t.b, t.b, gb.near now⟩, ⟨#[]⟩, [], 0, room, gb.near now, gb.near now, 0, 0, false, 0, 0⟩ : St))
  have HZ := Lib.hid hz
  have HE := Lib.hid hb
  clear hz hb
  go_wp2_with fail
  generalize wA.setRow (w.heap.size + 1) (rC none 0 0 (⟨t, seed, ⟨t.a, t.b, t.b, gb.near now⟩, ⟨#[]⟩, [], 0, room, gb.near now, gb.near now, 0, 0, false, 0, 0⟩ : St)) = wz at *
  exact bodyPost_ret (v := .tuple #[.agg (rC none 0 0 (⟨t, seed, ⟨t.a, t.b, t.b, gb.near now⟩, ⟨#[]⟩, [], 0, room, gb.near now, gb.near now, 0, 0, false, 0, 0⟩ : St)), .int .i64 0]) (by simp [results, Tryz.results5, asAddr, loadVar_R HZ.out]) rfl ⟨by rw [HEQ.out], HE.out⟩
theorem rnew_yes (t : Tox) (ht : t.s.size ≤ maxLen) (seed room now : Int) (w : World) (h : newE t room = 0) : Calls Tryz.prog 5 #[.agg #[.string t.s, .int .i64 t.k, .bool t.up, .int .i64 t.o, .int .i64 t.a, .int .i64 t.b], .int .u64 seed, .int .i64 room, .int .i64 now] w (RYes (newS t seed room now) w) := by
  obtain ⟨hx, h1, h2⟩ := newE_ok h
  by_cases h0 : t = noTox
  · exact rnew_ok_f t ht seed room now w h0 ⟨h1, h2⟩
  · have hc : t.chk = 0 := hx.resolve_left h0
    by_cases hk : t.k = 2
    · exact rnew_ok_b t ht seed room now w hc h0 hk ⟨h1, h2⟩
    · exact rnew_ok_t t ht seed room now w hc h0 hk ⟨h1, h2⟩
theorem rnew_no (t : Tox) (ht : t.s.size ≤ maxLen) (seed room now : Int) (w : World) (h : newE t room ≠ 0) : Calls Tryz.prog 5 #[.agg #[.string t.s, .int .i64 t.k, .bool t.up, .int .i64 t.o, .int .i64 t.a, .int .i64 t.b], .int .u64 seed, .int .i64 room, .int .i64 now] w (RNo (newE t room) w) := by
  unfold newE at h ⊢
  by_cases h1 : t ≠ noTox ∧ t.chk ≠ 0
  · rw [if_pos h1]
    exact rnew_chk t ht seed room now w rfl h1.2 h1.1
  · rw [if_neg h1] at h ⊢
    have hr : room < 1 ∨ 4096 < room := by
      rcases Decidable.em (room < 1 ∨ 4096 < room) with h2 | h2
      · exact h2
      · rw [if_neg h2] at h
        exact absurd rfl h
    rw [if_pos hr]
    by_cases h0 : t = noTox
    · exact rnew_room_f t ht seed room now w h0 hr
    · have hc : t.chk = 0 := by
        rcases Decidable.em (t.chk = 0) with e | e
        · exact e
        · exact absurd ⟨h0, e⟩ h1
      exact rnew_room_t t ht seed room now w hc h0 hr
end Go.Proofs.YtlbihcpglcdmmaaGreat

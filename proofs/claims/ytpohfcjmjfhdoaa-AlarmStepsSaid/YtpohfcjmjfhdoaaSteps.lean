/-
  The walk of chicanelaw06.AlarmSteps: it returns true, whatever calls. Conditions: as each states.
-/
import Derived.Test.YtpohfcjmjfhdoaaW20
namespace Go.Proofs.Ytpohfcjmjfhdoaa.alarmSteps
open Go.RowKit Go.Sort Go.Maps

set_option maxRecDepth 100000 in
set_option maxHeartbeats 16000000 in
theorem walk (p : Option Addr) (m d : Nat) (os : List Call) (w : World) (hx : os.length = m) (_hmd : m ≤ d) (_hd : d ≤ 9223372036854775807) (hz : ∀ o ∈ os, Wf64 o.1 ∧ Wf64 o.2.1 ∧ Wf64 o.2.2) (hj : OpsIn w p m os) (early late : Int) :
    Calls Try.prog 5 #[.slice p m d, .int .i64 early, .int .i64 late] w fun e w' => e = .returned (.bool true) ∧ Below w.heap.size w w' := by
  have HX := Lib.hid hx
  have HJ := Lib.hid hj
  have HZ := Lib.hid hz
  clear hx hz hj
  go_enter Try.func5, Try.ntmps5
  go_wp2_with fail
  refine (new_at w _ (Below.refl _ _)).mono ?_
  rintro e w1 ⟨rfl, ha⟩
  have HA1 := Lib.hid ha
  clear ha
  generalize w.heap.size + 1 = g at *
  obtain ⟨B, hB⟩ : ∃ B, w.heap.size = B := ⟨_, rfl⟩
  rw [hB] at HA1
  clear hB
  go_wp2_with fail
  refine (new_two HA1.out).mono ?_
  rintro e w2 ⟨rfl, ha⟩
  have HB2 := Lib.hid ha
  clear ha HA1
  generalize w1.heap.size + 1 = g' at *
  generalize w1.heap.size = B' at *
  clear w1
  by_cases hm : 200 < m
  · go_wp2_with fail
    refine (alive_any _).mono ?_
    rintro e w5 ⟨rfl, hb5⟩
    have HE := Lib.hid (HB2.out.on hb5).left.below
    clear hb5
    go_wp2_with fail
    go_ret
    exact ⟨rfl, HE.out⟩
  by_cases hel : late < early
  · go_wp2_with fail
    refine (alive_any _).mono ?_
    rintro e w5 ⟨rfl, hb5⟩
    have HE := Lib.hid (HB2.out.on hb5).left.below
    clear hb5
    go_wp2_with fail
    go_ret
    exact ⟨rfl, HE.out⟩
  · have HEL := Lib.hid (show early ≤ late by omega)
    go_wp2_with fail
    clear hel
    go_loopw [41] (fun i wr => ∃ (k : Nat) (L : List Due) (last : Int), k ≤ m ∧ i = .int .i64 k ∧ Hid (Both w B g L last B' g' L last wr) ∧ Hid (last ≤ k)) (fun i _ => m - (intOf i).toNat)
    case atStart => exact ⟨0, [], 0, by omega, rfl, HB2, Lib.hid (by omega)⟩
    case round =>
      clear HB2
      obtain ⟨k, L, last, hk, rfl, HB, HL⟩ := hrel
      by_cases hlt : k < m
      · obtain ⟨b, o, rfl, hcell⟩ := ops_on HJ.out HB.out.left.below (by omega)
        obtain ⟨c0, c1, c2⟩ := hcell k hlt
        have hzk := HZ.out _ (at_of os k (by rw [HX.out]; exact hlt))
        generalize os.getD k noCall = O at *
        obtain ⟨kd, a, id⟩ := O
        simp only at c0 c1 c2
        rw [← Nat.add_assoc] at c1 c2
        have HID := Lib.hid hzk.2.2
        have hbl := World.block_lt_of_cell? wr _ c0
        have HB2 := Lib.hid (HB.out.on ((Below.refl wr.heap.size wr).alloc (Nat.le_refl _) (.cells #[.int .i64 kd, .int .i64 a, .int .i64 id] 30)))
        have HO2 := Lib.hid (heap_alloc_new wr (.cells #[.int .i64 kd, .int .i64 a, .int .i64 id] 30))
        have HDL := Lib.hid (do_last L last kd a id)
        have HLL := Lib.hid (show last ≤ 1000 by have := HL.out; omega)
        clear hcell hzk
        go_wp2_with fail
        generalize wr.alloc (.cells #[.int .i64 kd, .int .i64 a, .int .i64 id] 30) = w3 at *
        generalize wr.heap.size = go at *
        refine (does_b HB2.out HLL.out HID.out).mono ?_
        rintro e w4 ⟨q, n, c, rfl, _, hb4, hk4⟩
        have HB4 := Lib.hid hb4.swap
        have HO4 := Lib.hid (hk4 _ _ _ _ (by decide) (by decide) HO2.out)
        clear hb4 hk4 c0 c1 c2 HB2 HO2 hbl
        have o0 : w4.cell? ⟨go, 0, none⟩ = some (.int .i64 kd) := cell_of_row w4 go 0 _ _ _ HO4.out
        have o1 : w4.cell? ⟨go, 1, none⟩ = some (.int .i64 a) := cell_of_row w4 go 1 _ _ _ HO4.out
        have o2 : w4.cell? ⟨go, 2, none⟩ = some (.int .i64 id) := cell_of_row w4 go 2 _ _ _ HO4.out
        go_wp2_with fail
        refine (does_b HB4.out HLL.out HID.out).mono ?_
        rintro e w5 ⟨q, n, c, rfl, _, hb5, _⟩
        have HB5 := Lib.hid hb5.swap
        clear hb5 HB4 HO4 o0 o1 o2
        go_wp2_with fail
        go_roundw
        case rel => exact ⟨k + 1, _, _, by omega, by go_num, HB5, Lib.hid (by have := HDL.out; have := HL.out; simp only [Int.natCast_add]; omega)⟩
        case measure => simp [intOf]; omega
      · have hbd := HB.out.left.bounds
        have hbd2 := HL.out
        have HK := Lib.hid (due_steps L HEL.out)
        have HT := Lib.hid (take_steps L (dueN L early) (dueN (L.drop (dueN L early)) late))
        have HLe := Lib.hid (show dueN L early ≤ 1000 ∧ dueN (L.drop (dueN L early)) late ≤ 1000 ∧ dueN L late ≤ 1000 ∧ (L.drop (dueN L late)).length ≤ 1000 from by
          have h1 := due_le L early
          have h2 := due_le L late
          have h3 := due_le (L.drop (dueN L early)) late
          rw [List.length_drop] at h3 ⊢
          omega)
        obtain ⟨K1, hK1⟩ : ∃ K, dueN L early = K := ⟨_, rfl⟩
        rw [hK1] at HK HT HLe
        have HK1 := Lib.hid hK1
        obtain ⟨K2, hK2⟩ : ∃ K, dueN (L.drop K1) late = K := ⟨_, rfl⟩
        rw [hK2] at HK HT HLe
        have HK2 := Lib.hid hK2
        have HBZ := Lib.hid HB.out.low
        obtain ⟨D, hD⟩ : ∃ D, L.drop (dueN L late) = D := ⟨_, rfl⟩
        rw [hD] at HLe
        have HD := Lib.hid hD
        obtain ⟨ND, hND⟩ : ∃ ND, D.length = ND := ⟨_, rfl⟩
        rw [hND] at HLe
        have HND := Lib.hid hND
        clear hD hND
        clear hbd hbd2 hK1 hK2 HL
        go_wp2_with fail
        refine (take_z HBZ.out early HK1.out rfl rfl).mono ?_
        rintro e w3 ⟨⟨q3, d3, rfl, ho3⟩, hb3, _, _⟩
        have HO3 := Lib.hid ho3
        have HB3 := Lib.hid hb3
        clear ho3 hb3 HBZ HB
        generalize wr.heap.size = Z at *
        go_wp2_with fail
        refine (take_z HB3.out late HK2.out rfl rfl).mono ?_
        rintro e w4 ⟨⟨q4, d4, rfl, ho4⟩, hb4, _, hz4⟩
        have HO34 := Lib.hid (own_far HO3.out hz4)
        have HB4 := Lib.hid hb4
        obtain ⟨p4, c4, e4, hl4, hi4, hn4, hc4, _⟩ := own_dues ho4
        cases e4
        obtain ⟨v5, w5, r1, r2, r3⟩ := app_own HO34.out (by obtain ⟨_, _, _, _, _, _, _, _, _, _, _, _, h, _⟩ := hb4; exact h) hl4 (fun e => ⟨hn4 e, by have := hn4 e; omega⟩) hi4 (by have := HLe.out; omega) 43
        have hlow : ∀ i, (Value.slice q3 K1 d3).ownBlock = some i → Z ≤ i := fun i hi => (HO34.out.lt i hi).1
        have HB5 := Lib.hid (hb4.grown r3 hlow)
        rw [HT.out, ← HK.out] at r2
        obtain ⟨p5, c5, rfl, hl5, _⟩ := own_dues r2
        have HO5 := Lib.hid r2
        have HR1 := Lib.hid r1
        clear ho4 hb4 hz4 hl4 hi4 hn4 hc4 r1 r2 r3 hlow hl5 HO3 HB3 HO34 HB4
        go_wp2_with (at_builtin; refine Lib.wpList_append_run w4 rfl _ _ _ _ rfl (.slice q3 K1 d3) (.slice q4 K2 d4) rfl rfl _ _ HR1.out ?_)
        refine (alive_any _).mono ?_
        rintro e w6 ⟨rfl, hb⟩
        have HO6 := Lib.hid (own_on HO5.out hb)
        have HD6 := Lib.hid (show Both w B g D last B' g' L last w6 from by
          have := HB5.out.both.on hb
          rw [List.drop_drop, ← HK.out, HD.out] at this
          exact this)
        clear hb HO5 HB5
        go_wp2_with fail
        refine (rows_got HO6.out (by have := HLe.out; omega)).mono ?_
        rintro e w7 ⟨q7, c7, rfl, hr, hb⟩
        have HR7 := Lib.hid hr
        have HB7 := Lib.hid (HD6.out.on hb).swap
        clear hr hb HO6 HD6
        go_wp2_with fail
        refine (take_z HB7.out.low late rfl rfl HD.out).mono ?_
        rintro e w8 ⟨⟨q8, d8, rfl, ho8⟩, hb8, hk8, _⟩
        have HO8 := Lib.hid ho8
        have HB8 := Lib.hid hb8.both
        have HR8 := Lib.hid (row_keeps HR7.out hk8)
        clear ho8 hb8 hk8 HR7 HB7
        go_wp2_with fail
        refine (rows_got HO8.out (by have := HLe.out; omega)).mono ?_
        rintro e w9 ⟨q9, c9, rfl, hr, hb⟩
        have HS9 := Lib.hid hr
        have HR9 := Lib.hid (row_on HR8.out hb)
        have HB9 := Lib.hid (HB8.out.on hb)
        clear hr hb HO8 HB8 HR8
        go_wp2_with fail
        refine (same_rows HR9.out HS9.out (same_refl _)).mono ?_
        rintro e wa ⟨rfl, hb⟩
        have HBa := Lib.hid (HB9.out.on hb)
        clear hb HB9 HR9 HS9
        go_wp2_with fail
        refine (list_k HBa.out.right HND.out).mono ?_
        rintro e wb ⟨⟨qb, cb, rfl, ho⟩, hb⟩
        have HOb := Lib.hid ho
        have HBb := Lib.hid (HBa.out.on hb)
        clear ho hb HBa
        go_wp2_with fail
        refine (rows_got HOb.out (by have := HLe.out; omega)).mono ?_
        rintro e wc ⟨qc, cc, rfl, hr, hb⟩
        have HRc := Lib.hid hr
        have HBc := Lib.hid (HBb.out.on hb)
        clear hr hb HOb HBb
        go_wp2_with fail
        refine (list_k HBc.out.left HND.out).mono ?_
        rintro e wd ⟨⟨qd, cd, rfl, ho⟩, hb⟩
        have HOd := Lib.hid ho
        have HBd := Lib.hid (HBc.out.on hb)
        have HRd := Lib.hid (row_on HRc.out hb)
        clear ho hb HBc HRc
        go_wp2_with fail
        refine (rows_got HOd.out (by have := HLe.out; omega)).mono ?_
        rintro e we ⟨qe, ce, rfl, hr, hb⟩
        have HSe := Lib.hid hr
        have HBe := Lib.hid (HBd.out.on hb)
        have HRe := Lib.hid (row_on HRd.out hb)
        clear hr hb HOd HBd HRd
        go_wp2_with fail
        refine (same_rows HRe.out HSe.out (same_refl _)).mono ?_
        rintro e wf ⟨rfl, hb⟩
        have HE := Lib.hid (HBe.out.on hb).left.below
        clear hb HBe HRe HSe
        go_wp2_with fail
        go_ret
        exact ⟨ret_bool (by simp), HE.out⟩
end Go.Proofs.Ytpohfcjmjfhdoaa.alarmSteps

/-
  Contract: what the document's own Sum answers. Conditions: as each states.
-/
import Derived.Test.YtbfbbfcfijgakaaW5
namespace Go.Proofs.Ytbfbbfcfijgakaa
open Go.RowKit

theorem make32 : ∀ w : World, (Instr.makeSlice 41 (.int .i64 32) (.int .i64 32)).run Try.prog w = .ok (.slice (some ⟨w.heap.size, 0, none⟩) 32 32) (w.alloc (.cells (madeCells #[.bool false] 32) 4)) :=
  fun w => run_make_row' 41 4 (.bool false) 1 Try.underlying41 info4 rfl .i64 .i64 32 (by omega) (by omega) w

/-- A row of bools that lies in the world. -/
def BoolsIn (w : World) (p : Option Addr) (n : Nat) (l : List Bool) : Prop := 0 < n → ∃ b o, p = some ⟨b, o, none⟩ ∧ ∀ i, i < n → w.cell? ⟨b, o + i, none⟩ = some (.bool (l.getD i false))
theorem own_bools {w : World} {base n : Nat} {v : Value} {l : List Bool} (h : w.ownsRow base 4 1 v n (l.map Value.bool)) : ∃ p c, v = .slice p n c ∧ l.length = n ∧ BoolsIn w p n l := by
  obtain ⟨hl, ⟨rfl, rfl⟩ | ⟨g, cap, cur, rfl, hb, hh, h1, h2, h3, h4⟩⟩ := h
  · exact ⟨none, 0, rfl, by simpa using hl, fun h => absurd h (by omega)⟩
  · have hl' : l.length = n := by simpa using hl
    refine ⟨_, cap, rfl, hl', fun _ => ⟨g, 0, rfl, fun i hi => ?_⟩⟩
    have hk : (l.map Value.bool)[i]? = some (.bool (l.getD i false)) := by
      rw [List.getElem?_map, List.getD_eq_getElem?_getD, List.getElem?_eq_getElem (by omega)]
      rfl
    rw [← h4, List.getElem?_take, if_pos (by omega)] at hk
    simp only [World.cell?, hh, Nat.zero_add]
    simpa using hk
theorem row_on {B : Nat} {w w' : World} {g : Nat} {t : TypeId} {n : Nat} {f : Nat → Value} (h : w.rowIs g t n f) (hb : Below B w w') (hg : g < B) : w'.rowIs g t n f := h.of_block (hb.block g hg)
theorem keep_cell {w w' : World} {a : Addr} {v : Value} (hb : Below w.heap.size w w') (h : w.cell? a = some v) : w'.cell? a = some v := (hb.cell (World.block_lt_of_cell? w a h)).trans h

set_option maxHeartbeats 4000000 in
theorem rsum_any (s : ByteArray) (hs : s.size ≤ 5000) (w : World) : Calls Try.prog 11 #[.string s] w fun e w' =>
    e = .returned (.int .u32 (sumB (nums s)).toNat) ∧ Below w.heap.size w w' := by
  have hmk := make32
  go_enter Try.func11, Try.ntmps11
  go_wp2_with fail
  have HR0 := Lib.hid (World.rowIs_made w (.bool false) 32 4)
  obtain ⟨w0, hw0⟩ : ∃ w0, w0 = w.alloc (.cells (madeCells #[.bool false] 32) 4) := ⟨_, rfl⟩
  have HB0 := Lib.hid (show Below w.heap.size w w0 by rw [hw0]; exact (Below.refl _ _).alloc (Nat.le_refl _) _)
  rw [← hw0] at HR0
  rw [← hw0]
  clear hw0
  go_loopw [4] (fun i w' => ∃ (k : Nat), k ≤ 32 ∧ i = .int .i64 k ∧ Hid (w'.rowIs w.heap.size 4 32 (fun i => .bool (decide (i < k)))) ∧ Hid (Below w.heap.size w w')) (fun i _ => 32 - (intOf i).toNat)
  case atStart => exact ⟨0, by omega, rfl, Lib.hid (by simpa using HR0.out), HB0⟩
  case round =>
    clear HR0 HB0
    obtain ⟨k, hk, rfl, HR, HB⟩ := hrel
    by_cases hlt : k < 32
    · have g0 := HR.out.cell hlt
      have g1 := HR.out.frozen k
      go_wp2_with fail
      go_roundw
      case rel => exact ⟨k + 1, by omega, by go_num, Lib.hid ((HR.out.set k _).congr (fun i hi => by
        by_cases h : i = k
        · simp [h]
        · rw [if_neg h]
          simp only [Value.bool.injEq, decide_eq_decide]
          omega)), Lib.hid (HB.out.setCell (Nat.le_refl _) _)⟩
      case measure => simp [intOf]; omega
    · obtain rfl : k = 32 := by omega
      go_wp2_with fail
      refine (bits_any s hs _).mono ?_
      rintro e w2 ⟨v, rfl, hown, hb2⟩
      obtain ⟨p, c, rfl, hl2, hi2⟩ := own_bools hown
      have HI := Lib.hid hi2
      have HL := Lib.hid hl2
      have HR2 := Lib.hid ((row_on HR.out hb2 HR.out.lt).congr (g := fun i => .bool (ones.getLsbD i)) (fun i hi => by simp [hi, ones_bit i hi]))
      have HB2 := Lib.hid (seqB HB.out hb2)
      have hsz2 : w.heap.size < w2.heap.size := Nat.lt_of_lt_of_le HR.out.lt hb2.size
      have HF := Lib.hid (feed_run ones (nums s) (nums_all s))
      obtain ⟨bl, hbl⟩ : ∃ bl, bitsL (nums s) = bl := ⟨_, rfl⟩
      rw [hbl] at HI HL HF
      obtain ⟨N, hN⟩ : ∃ N, 8 * s.size = N := ⟨_, rfl⟩
      have hN1 : N ≤ 40000 := by omega
      rw [hN] at HI HL
      rw [hN]
      clear hown hb2 HR HB hl2 hi2 hbl hN hk hlt
      go_wp2_with fail
      go_loopw [3, 6] (fun x i w' => ∃ (k g : Nat) (r : BitVec 32), k ≤ N ∧ i = .int .i64 k ∧ x = .slice (some ⟨g, 0, none⟩) 32 32 ∧ Hid (w'.rowIs g 4 32 (fun i => .bool (r.getLsbD i))) ∧ Hid (r = feedL ones (bl.take k)) ∧ Hid (Below w2.heap.size w2 w')) (fun _ i _ => N - (intOf i).toNat)
      case atStart => exact ⟨0, _, ones, by omega, rfl, rfl, HR2, Lib.hid rfl, Lib.hid (Below.refl _ _)⟩
      case round =>
        clear HR2
        obtain ⟨k, g, r, hk, rfl, rfl, HR, HRE, HB⟩ := hrel
        by_cases hlt : k < N
        · obtain ⟨b, o, rfl, hc⟩ := HI.out (by omega)
          have q0 := HR.out.cell (i := 0) (by omega)
          have q1 := keep_cell HB.out (hc k hlt)
          have HFS := Lib.hid (feedL_succ ones bl k (by rw [HL.out]; exact hlt))
          rw [← HRE.out] at HFS
          clear hc
          have hgl := HR.out.lt
          obtain ⟨x0, hx0⟩ : ∃ x0, r.getLsbD 0 = x0 := ⟨_, rfl⟩
          obtain ⟨bk, hbk⟩ : ∃ bk, bl.getD k false = bk := ⟨_, rfl⟩
          rw [hbk] at q1 HFS
          simp only [hx0] at q0
          have HX0 := Lib.hid hx0
          clear hbk hx0
          cases hodd : (x0 == bk)
          · have HFE := Lib.hid (feed_odd r bk (by rw [HX0.out]; simp [bne, hodd]))
            go_wp2_with fail
            go_quiet (fail)
            rename_i nq
            go_wp2_with fail
            obtain ⟨wz, hwz⟩ : ∃ wz, wz = wr.drewN nq := ⟨_, rfl⟩
            rw [← hwz]
            have HRz := Lib.hid (show wz.rowIs g 4 32 (fun i => .bool (r.getLsbD i)) by rw [hwz]; exact HR.out)
            have HBz := Lib.hid (show Below w2.heap.size w2 wz by rw [hwz]; exact ⟨HB.out.os, HB.out.tape, HB.out.output, HB.out.size, HB.out.block⟩)
            obtain ⟨h, hh⟩ : ∃ h, h = wr.heap.size := ⟨_, rfl⟩
            have hhz : h = wz.heap.size := by rw [hh, hwz]; rfl
            rw [← hh]
            have hgh : g ≠ h := by omega
            have hwh : w2.heap.size ≤ h := by rw [hh]; exact HB.out.size
            have HRH := Lib.hid (World.rowIs_made wz (.bool false) 32 4)
            rw [← hhz] at HRH
            obtain ⟨w4, hw4⟩ : ∃ w4, w4 = wz.alloc (.cells (madeCells #[.bool false] 32) 4) := ⟨_, rfl⟩
            rw [← hw4] at HRH
            rw [← hw4]
            have HRG := Lib.hid (show w4.rowIs g 4 32 (fun i => .bool (r.getLsbD i)) by rw [hw4]; exact HRz.out.alloc _)
            have HB4 := Lib.hid (show Below w2.heap.size w2 w4 by rw [hw4]; exact HBz.out.alloc HBz.out.size _)
            clear hw4 hhz hh hwz HRz HBz HR HB q0 q1
            go_loopw [9] (fun i w' => ∃ (j : Nat), j ≤ 31 ∧ i = .int .i64 j ∧ Hid (w'.rowIs g 4 32 (fun i => .bool (r.getLsbD i))) ∧ Hid (w'.rowIs h 4 32 (fun i => .bool (decide (i < j) && r.getLsbD (i + 1)))) ∧ Hid (Below w2.heap.size w2 w')) (fun i _ => 31 - (intOf i).toNat)
            case atStart => exact ⟨0, by omega, rfl, HRG, Lib.hid (by simpa using HRH.out), HB4⟩
            case round =>
              clear HRG HRH HB4
              obtain ⟨j, hj, rfl, HRG, HRH, HB⟩ := hrel
              by_cases hlt3 : j < 31
              · have q0 := HRG.out.cell (i := j + 1) (by omega)
                have q1 := HRH.out.cell (i := j) (by omega)
                have q2 := HRH.out.frozen j
                go_wp2_with fail
                go_roundw
                case rel => exact ⟨j + 1, by omega, by go_num, Lib.hid (HRG.out.setOther hgh _), Lib.hid ((HRH.out.set j _).congr (fun i hi => by
                  by_cases e : i = j
                  · simp [e]
                  · rw [if_neg e, show decide (i < j + 1) = decide (i < j) by rw [decide_eq_decide]; omega])), Lib.hid (HB.out.setCell hwh _)⟩
                case measure => simp [intOf]; omega
              · obtain rfl : j = 31 := by omega
                have HRS := Lib.hid (HRH.out.congr (g := fun i => .bool ((r >>> 1).getLsbD i)) (fun i hi => by
                  rw [shr_bit]
                  by_cases e : i < 31
                  · simp [e]
                  · obtain rfl : i = 31 := by omega
                    simp))
                clear HRG HRH hj hlt3
                go_wp2_with fail
                go_loopw [10, 11] (fun y i w' => ∃ (j : Nat) (z : Int), j ≤ 32 ∧ i = .int .i64 j ∧ y = .int .u32 z ∧ (0 ≤ z ∧ z < 4294967296) ∧ Hid (z = 3988292384 / 2 ^ j) ∧ Hid (w'.rowIs h 4 32 (fun i => .bool (if i < j then ((r >>> 1) ^^^ poly).getLsbD i else (r >>> 1).getLsbD i))) ∧ Hid (Below w2.heap.size w2 w')) (fun _ i _ => 32 - (intOf i).toNat)
                case atStart => exact ⟨0, _, by omega, rfl, rfl, by omega, Lib.hid rfl, Lib.hid (by simpa using HRS.out), HB⟩
                case round =>
                  clear HRS HB
                  obtain ⟨j, z, hj, rfl, rfl, hz, HZ, HRS, HB⟩ := hrel
                  by_cases hlt4 : j < 32
                  · have q1 := HRS.out.cell (i := j) hlt4
                    have q2 := HRS.out.frozen j
                    simp only [Nat.lt_irrefl, if_false] at q1
                    have HPB := Lib.hid (show (z % 2 == 1) = poly.getLsbD j by rw [HZ.out]; exact poly_bit j hlt4)
                    obtain ⟨y, hy⟩ : ∃ y, (r >>> 1).getLsbD j = y := ⟨_, rfl⟩
                    rw [hy] at q1
                    have HYY := Lib.hid hy
                    clear hy
                    go_wp2_with fail
                    go_roundw
                    case rel => exact ⟨j + 1, z / 2, by omega, by go_num, rfl, by omega, Lib.hid (by rw [HZ.out, Int.pow_succ, Int.ediv_ediv_of_nonneg (Int.le_of_lt (Int.pow_pos (by omega)))]), Lib.hid ((HRS.out.set j _).congr (fun i hi => by
                      by_cases e : i = j
                      · subst e
                        rw [if_pos rfl, if_pos (by omega), BitVec.getLsbD_xor, HYY.out, ← HPB.out]
                        cases y <;> cases hzz : (z % 2 == 1) <;> simp_all
                      · rw [if_neg e]
                        by_cases e2 : i < j
                        · rw [if_pos e2, if_pos (by omega)]
                        · rw [if_neg e2, if_neg (by omega)])), Lib.hid (HB.out.setCell hwh _)⟩
                    case measure => simp [intOf]; omega
                  · obtain rfl : j = 32 := by omega
                    have HRT := Lib.hid (HRS.out.congr (g := fun i => .bool (((r >>> 1) ^^^ poly).getLsbD i)) (fun i hi => by rw [if_pos hi]))
                    clear HRS
                    go_wp2_with fail
                    go_roundw
                    case rel => exact ⟨k + 1, h, (r >>> 1) ^^^ poly, by omega, by go_num, rfl, HRT, Lib.hid (by rw [HFS.out, HFE.out]), HB⟩
                    case measure => simp [intOf]; omega
          · have HFE := Lib.hid (feed_even r bk (by rw [HX0.out]; simp [bne, hodd]))
            go_wp2_with fail
            go_quiet (fail)
            rename_i nq
            go_wp2_with fail
            obtain ⟨wz, hwz⟩ : ∃ wz, wz = wr.drewN nq := ⟨_, rfl⟩
            rw [← hwz]
            have HRz := Lib.hid (show wz.rowIs g 4 32 (fun i => .bool (r.getLsbD i)) by rw [hwz]; exact HR.out)
            have HBz := Lib.hid (show Below w2.heap.size w2 wz by rw [hwz]; exact ⟨HB.out.os, HB.out.tape, HB.out.output, HB.out.size, HB.out.block⟩)
            obtain ⟨h, hh⟩ : ∃ h, h = wr.heap.size := ⟨_, rfl⟩
            have hhz : h = wz.heap.size := by rw [hh, hwz]; rfl
            rw [← hh]
            have hgh : g ≠ h := by omega
            have hwh : w2.heap.size ≤ h := by rw [hh]; exact HB.out.size
            have HRH := Lib.hid (World.rowIs_made wz (.bool false) 32 4)
            rw [← hhz] at HRH
            obtain ⟨w4, hw4⟩ : ∃ w4, w4 = wz.alloc (.cells (madeCells #[.bool false] 32) 4) := ⟨_, rfl⟩
            rw [← hw4] at HRH
            rw [← hw4]
            have HRG := Lib.hid (show w4.rowIs g 4 32 (fun i => .bool (r.getLsbD i)) by rw [hw4]; exact HRz.out.alloc _)
            have HB4 := Lib.hid (show Below w2.heap.size w2 w4 by rw [hw4]; exact HBz.out.alloc HBz.out.size _)
            clear hw4 hhz hh hwz HRz HBz HR HB q0 q1
            go_loopw [9] (fun i w' => ∃ (j : Nat), j ≤ 31 ∧ i = .int .i64 j ∧ Hid (w'.rowIs g 4 32 (fun i => .bool (r.getLsbD i))) ∧ Hid (w'.rowIs h 4 32 (fun i => .bool (decide (i < j) && r.getLsbD (i + 1)))) ∧ Hid (Below w2.heap.size w2 w')) (fun i _ => 31 - (intOf i).toNat)
            case atStart => exact ⟨0, by omega, rfl, HRG, Lib.hid (by simpa using HRH.out), HB4⟩
            case round =>
              clear HRG HRH HB4
              obtain ⟨j, hj, rfl, HRG, HRH, HB⟩ := hrel
              by_cases hlt3 : j < 31
              · have q0 := HRG.out.cell (i := j + 1) (by omega)
                have q1 := HRH.out.cell (i := j) (by omega)
                have q2 := HRH.out.frozen j
                go_wp2_with fail
                go_roundw
                case rel => exact ⟨j + 1, by omega, by go_num, Lib.hid (HRG.out.setOther hgh _), Lib.hid ((HRH.out.set j _).congr (fun i hi => by
                  by_cases e : i = j
                  · simp [e]
                  · rw [if_neg e, show decide (i < j + 1) = decide (i < j) by rw [decide_eq_decide]; omega])), Lib.hid (HB.out.setCell hwh _)⟩
                case measure => simp [intOf]; omega
              · obtain rfl : j = 31 := by omega
                have HRS := Lib.hid (HRH.out.congr (g := fun i => .bool ((r >>> 1).getLsbD i)) (fun i hi => by
                  rw [shr_bit]
                  by_cases e : i < 31
                  · simp [e]
                  · obtain rfl : i = 31 := by omega
                    simp))
                clear HRG HRH hj hlt3
                go_wp2_with fail
                go_roundw
                case rel => exact ⟨k + 1, h, r >>> 1, by omega, by go_num, rfl, HRS, Lib.hid (by rw [HFS.out, HFE.out]), HB⟩
                case measure => simp [intOf]; omega
        · obtain rfl : k = N := by omega
          have HRF := Lib.hid (show r ^^^ ones = sumB (nums s) by rw [HRE.out, List.take_of_length_le (by rw [HL.out]; exact Nat.le_refl _), HF.out, sumB_eq])
          have HQB := Lib.hid (fun i hi => not_bit r i hi)
          obtain ⟨q, hq⟩ : ∃ q, (r ^^^ ones).toNat = q := ⟨_, rfl⟩
          have hq1 : q < 4294967296 := by rw [← hq]; exact (r ^^^ ones).isLt
          rw [hq] at HQB
          have HQ := Lib.hid hq
          clear hq
          go_wp2_with fail
          go_loop [12, 13] (fun y i => ∃ (m : Nat) (z : Int), m ≤ 32 ∧ i = .int .i64 ((m : Int) - 1) ∧ y = .int .u32 z ∧ (0 ≤ z ∧ z < 4294967296) ∧ Hid (z = ((q / 2 ^ m : Nat) : Int))) (fun _ i => (intOf i + 1).toNat)
          case atStart => exact ⟨32, 0, by omega, rfl, rfl, by omega, Lib.hid (by rw [Nat.div_eq_of_lt (by simpa using hq1)]; rfl)⟩
          case round =>
            obtain ⟨m, z, hm, rfl, rfl, hz, HZ⟩ := hrel
            by_cases hm0 : m = 0
            · subst hm0
              have hz' : z = (q : Int) := by rw [HZ.out]; simp
              have HZ' := Lib.hid hz'
              clear hz'
              go_wp2_with fail
              go_ret
              exact ⟨ret_int (by rw [HZ'.out, ← HRF.out, HQ.out]), seqB HB2.out HB.out⟩
            · obtain ⟨j, rfl⟩ : ∃ j, m = j + 1 := ⟨m - 1, by omega⟩
              have e : (((j + 1 : Nat) : Int) - 1) = (j : Int) := by omega
              have q0 := HR.out.cell (i := j) (by omega)
              have HUP := Lib.hid (upper_step q j)
              rw [HQB.out j (by omega)] at HUP
              have hz2 : z * 2 + 1 < 4294967296 := by
                have h1 := HZ.out
                have h2 : q / 2 ^ (j + 1) ≤ q / 2 := by
                  rw [Nat.pow_succ, Nat.mul_comm, ← Nat.div_div_eq_div_mul]
                  exact Nat.div_le_self _ _
                generalize q / 2 ^ (j + 1) = qq at h1 h2
                omega
              rw [e]
              clear e
              obtain ⟨y, hy⟩ : ∃ y, r.getLsbD j = y := ⟨_, rfl⟩
              rw [hy] at q0 HUP
              clear hy
              cases y
              · go_wp2_with fail
                go_round
                case rel => exact ⟨j, z * 2 + 1, by omega, by go_num, rfl, by omega, Lib.hid (by rw [HUP.out, HZ.out]; simp)⟩
                case measure => simp [intOf]
              · go_wp2_with fail
                go_round
                case rel => exact ⟨j, z * 2, by omega, by go_num, rfl, by omega, Lib.hid (by rw [HUP.out, HZ.out]; simp)⟩
                case measure => simp [intOf]
end Go.Proofs.Ytbfbbfcfijgakaa

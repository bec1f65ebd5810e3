/-
  The walk of chicanelaw04.LebRows: it returns true, whatever numbers and texts. Conditions: as each states.
-/
import Derived.Test.YtanbggegbhcfhaaM2
namespace Go.Proofs.Ytanbggegbhcfhaa.lebRows
open Go.RowKit

set_option maxHeartbeats 2000000 in
theorem walk_long (p q : Option Addr) (n c m d : Nat) (hn : n ≤ 140737488355328) (hm : m ≤ 140737488355328) (h : 100 < n + m) (w : World) :
    Calls Try.prog 6 #[.slice p n c, .slice q m d] w fun e w' => e = .returned (.bool true) ∧ Below w.heap.size w w' := by
  have d1 : decide ((100 : Int) < (n : Int) + (m : Int)) = true := by simp; omega
  go_enter Try.func6, Try.ntmps6
  go_wp2_with fail
  refine (alive_any _).mono ?_
  rintro e w5 ⟨rfl, hb5⟩
  have HB5 := Lib.hid hb5
  clear hb5
  go_wp2_with fail
  go_ret
  exact ⟨rfl, HB5.out⟩

/-- The bytes so far. -/
def Sofar (w wr : World) (Z : List Int) (v : Value) (L : Nat) : Prop := ∃ q c, v = .slice q L c ∧ Lib.BytesIn wr q L Z ∧ Z.length = L ∧ Below w.heap.size w wr
theorem sofar_out {w wr : World} {Z : List Int} {v : Value} {L : Nat} (h : Sofar w wr Z v L) {Y : List Int} {e : Ending} {w' : World} (ho : OutB Y wr e w') : ∃ u, e = .returned u ∧ Sofar w w' Y u Y.length := by
  obtain ⟨q, c, rfl, hi, _, _, _, _, hb⟩ := out_bytes ho
  obtain ⟨_, _, _, _, _, hb0⟩ := h
  exact ⟨_, rfl, q, c, rfl, hi, rfl, seqB hb0 hb⟩

set_option maxHeartbeats 4000000 in
theorem walk_main (p q : Option Addr) (n c m d : Nat) (xs : List Int) (ss : List ByteArray) (w : World) (hx : xs.length = n) (hy : ss.length = m) (hr : ∀ x ∈ xs, -9223372036854775808 ≤ x ∧ x ≤ 9223372036854775807) (hs : ∀ s ∈ ss, s.size ≤ 9223372036854775807)
    (hi : IntsIn w p n xs) (hj : StrsIn w q m ss) (h : n + m ≤ 100) :
    Calls Try.prog 6 #[.slice p n c, .slice q m d] w fun e w' => e = .returned (.bool true) ∧ Below w.heap.size w w' := by
  have HX := Lib.hid hx
  have HY := Lib.hid hy
  have HRG := Lib.hid hr
  have HSZ := Lib.hid hs
  have HI := Lib.hid hi
  have HJ := Lib.hid hj
  have d1 : decide ((100 : Int) < (n : Int) + (m : Int)) = false := by simp; omega
  clear hx hy hr hs hi hj
  go_enter Try.func6, Try.ntmps6
  go_wp2_with fail
  go_loopw [5, 24] (fun v i wr => ∃ (k L : Nat), k ≤ n ∧ i = .int .i64 k ∧ L ≤ 9 * k ∧ Hid (Sofar w wr (flatI (xs.take k)) v L)) (fun _ i _ => n - (intOf i).toNat)
  case atStart => exact ⟨0, 0, by omega, rfl, by omega, Lib.hid ⟨none, 0, rfl, Lib.BytesIn.nil _ _ _, rfl, Below.refl _ _⟩⟩
  case round =>
    obtain ⟨k, L, hk, rfl, hL, HSO⟩ := hrel
    obtain ⟨v1, c1, rfl, hb1, hl1, hbw⟩ := HSO.out
    have HB1 := Lib.hid hb1
    have HL1 := Lib.hid hl1
    have HBW := Lib.hid hbw
    clear hb1 hl1 hbw
    by_cases hlt : k < n
    · obtain ⟨b, o, rfl, hc⟩ := ints_on HI.out HBW.out (by omega)
      have g := hc k hlt
      have HS := Lib.hid (flatI_succ xs k (by rw [HX.out]; exact hlt))
      have hq : xs.getD k 0 ≤ 9223372036854775807 := by
        rw [List.getD_eq_getElem?_getD, List.getElem?_eq_getElem (by rw [HX.out]; exact hlt)]
        exact (HRG.out _ (List.getElem_mem _)).2
      generalize xs.getD k 0 = y at *
      have h9 := numI_len9 y (by omega)
      clear hc
      go_wp2_with fail
      refine (put_any v1 L c1 (flatI (xs.take k)) y _ HL1.out (by omega) HB1.out hq).mono ?_
      intro e w1 ho
      obtain ⟨u, rfl, hso⟩ := sofar_out HSO.out ho
      rw [← HS.out] at hso
      have HSO' := Lib.hid hso
      have hle : (flatI (xs.take (k + 1))).length ≤ 9 * (k + 1) := by
        rw [HS.out, List.length_append, HL1.out]
        omega
      clear hso ho
      go_wp2_with fail
      go_roundw
      case rel => exact ⟨k + 1, _, by omega, by go_num, hle, HSO'⟩
      case measure => simp [intOf]; omega
    · have hk' : k = n := by omega
      have e0 : xs.take k = xs := List.take_of_length_le (by rw [HX.out]; omega)
      rw [e0] at HSO HB1 HL1
      clear e0
      obtain ⟨B0, HB0⟩ : ∃ B0, Hid (B0 = flatI xs) := ⟨_, Lib.hid rfl⟩
      rw [← HB0.out] at HSO HB1 HL1
      have hL9 : L ≤ 900 := by omega
      clear hL hk
      go_wp2_with fail
      clear hlt hk'
      go_loopw [5, 34] (fun v i wr => ∃ (k2 L2 : Nat), k2 ≤ m ∧ i = .int .i64 k2 ∧ L2 ≤ 900 + 509 * k2 ∧ Hid (Sofar w wr (B0 ++ flatS (ss.take k2)) v L2) ∧ Hid (∀ s ∈ ss.take k2, s.size ≤ 500)) (fun _ i _ => m - (intOf i).toNat)
      case atStart => exact ⟨0, L, by omega, rfl, by omega, Lib.hid (by simpa [flatS] using HSO.out), Lib.hid (by simp)⟩
      case round =>
        clear HSO HB1 HL1 HBW
        obtain ⟨k2, L2, hk2, rfl, hL2, HSO, HSS⟩ := hrel
        obtain ⟨v2, c2, rfl, hb2, hl2, hbw⟩ := HSO.out
        have HB2 := Lib.hid hb2
        have HL2 := Lib.hid hl2
        have HBW := Lib.hid hbw
        clear hb2 hl2 hbw
        by_cases hlt : k2 < m
        · obtain ⟨b, o, rfl, hc⟩ := strs_on HJ.out HBW.out (by omega)
          have g := hc k2 hlt
          have HS := Lib.hid (flatS_succ ss k2 (by rw [HY.out]; exact hlt))
          have HT := Lib.hid (take_succ_getD ss k2 ByteArray.empty (by rw [HY.out]; exact hlt))
          have hq : (ss.getD k2 ByteArray.empty).size ≤ 9223372036854775807 := by
            rw [List.getD_eq_getElem?_getD, List.getElem?_eq_getElem (by rw [HY.out]; exact hlt)]
            exact HSZ.out _ (List.getElem_mem _)
          generalize ss.getD k2 ByteArray.empty = s at *
          clear hc
          by_cases h5 : 500 < s.size
          · have d5 : decide ((500 : Int) < (s.size : Int)) = true := by simp; omega
            go_wp2_with fail
            refine (alive_any _).mono ?_
            rintro e w5 ⟨rfl, hb5⟩
            have HB5 := Lib.hid (seqB HBW.out hb5)
            clear hb5
            go_wp2_with fail
            go_ret
            exact ⟨rfl, HB5.out⟩
          · have d5 : decide ((500 : Int) < (s.size : Int)) = false := by simp; omega
            have hsl := strL_len (nums s) (by rw [nums_length]; omega)
            rw [nums_length] at hsl
            go_wp2_with fail
            refine (str_any v2 L2 c2 (B0 ++ flatS (ss.take k2)) s _ HL2.out (by omega) HB2.out).mono ?_
            intro e w1 ho
            obtain ⟨u, rfl, hso⟩ := sofar_out HSO.out ho
            rw [List.append_assoc, ← HS.out] at hso
            have HSO' := Lib.hid hso
            have hle : (B0 ++ flatS (ss.take (k2 + 1))).length ≤ 900 + 509 * (k2 + 1) := by
              rw [HS.out, ← List.append_assoc, List.length_append, HL2.out]
              omega
            have HSS' := Lib.hid (show ∀ s ∈ ss.take (k2 + 1), s.size ≤ 500 from fun t ht => by
              rw [HT.out] at ht
              rcases List.mem_append.mp ht with ht | ht
              · exact HSS.out t ht
              · obtain rfl : t = s := by simpa using ht
                omega)
            clear hso ho
            go_wp2_with fail
            go_roundw
            case rel => exact ⟨k2 + 1, _, by omega, by go_num, hle, HSO', HSS'⟩
            case measure => simp [intOf]; omega
        · have e0 : ss.take k2 = ss := List.take_of_length_le (by rw [HY.out]; omega)
          rw [e0] at HSS HB2 HL2
          clear e0 HSO
          obtain ⟨B, HB⟩ : ∃ B, Hid (B = B0 ++ flatS ss) := ⟨_, Lib.hid rfl⟩
          rw [← HB.out] at HB2 HL2
          have hL2' : L2 ≤ 60000 := by omega
          have HAB := Lib.hid (show AllB B by rw [HB.out, HB0.out]; exact (allB_flatI xs).append (allB_flatS ss))
          clear hL2
          go_wp2_with fail
          refine (new_any v2 L2 c2 B _ HL2.out (by omega) HAB.out HB2.out).mono ?_
          rintro e w3 ⟨g, rfl, hr, hb3⟩
          have HR := Lib.hid hr
          have HB3 := Lib.hid (seqB HBW.out hb3)
          have hbase := HBW.out.size
          clear hr hb3 HB2 HL2
          go_wp2_with fail
          clear hlt hk2
          go_loopw [52] (fun i wr => ∃ (k3 : Nat), k3 ≤ n ∧ i = .int .i64 k3 ∧ Hid (Below w.heap.size w wr) ∧ Hid (∃ base, w.heap.size ≤ base ∧ Rd wr base g B (flatI (xs.take k3)).length false)) (fun i _ => n - (intOf i).toNat)
          case atStart => exact ⟨0, by omega, rfl, HB3, Lib.hid ⟨_, hbase, HR.out⟩⟩
          case round =>
            clear HBW HR HB3 hbase
            obtain ⟨k3, hk3, rfl, HBW, HRD⟩ := hrel
            obtain ⟨base, hbase, hrd⟩ := HRD.out
            have HR := Lib.hid hrd
            clear hrd HRD
            by_cases hlt : k3 < n
            · obtain ⟨b, o, rfl, hc⟩ := ints_on HI.out HBW.out (by omega)
              have g1 := hc k3 hlt
              have HS := Lib.hid (flatI_succ xs k3 (by rw [HX.out]; exact hlt))
              have HD := Lib.hid (flatI_drop xs (flatS ss) k3 (by rw [HX.out]; exact hlt))
              have hq : xs.getD k3 0 ≤ 9223372036854775807 := by
                rw [List.getD_eq_getElem?_getD, List.getElem?_eq_getElem (by rw [HX.out]; exact hlt)]
                exact (HRG.out _ (List.getElem_mem _)).2
              generalize xs.getD k3 0 = y at *
              clear hc
              by_cases h0 : 0 ≤ y
              · have d0 : decide (0 ≤ y) = true := by simpa using h0
                have HF := Lib.hid (found_int B (flatI (xs.take k3)).length y _ h0 hq (by rw [HB.out, HB0.out]; exact HD.out))
                have HP := Lib.hid (numI_pos y h0)
                go_wp2_with fail
                refine (rint_any base g B _ false y _ HR.out).mono ?_
                rw [HF.out]
                intro e w6 ht
                obtain ⟨rfl, hr6, _⟩ := id ht
                rw [HP.out, ← List.length_append, ← HS.out] at hr6
                have HR6 := Lib.hid hr6
                have HB6 := Lib.hid (took_below ht HBW.out HBW.out.size hbase)
                clear ht hr6
                simp only [tI]
                rw [Int.toNat_of_nonneg h0]
                go_wp2_with fail
                go_roundw
                case rel => exact ⟨k3 + 1, by omega, by go_num, HB6, Lib.hid ⟨base, hbase, HR6.out⟩⟩
                case measure => simp [intOf]; omega
              · have d0 : decide (0 ≤ y) = false := by simpa using h0
                have HR6 := Lib.hid (show Rd wr base g B (flatI (xs.take (k3 + 1))).length false by rw [HS.out, numI_neg y (by omega), List.append_nil]; exact HR.out)
                go_wp2_with fail
                go_roundw
                case rel => exact ⟨k3 + 1, by omega, by go_num, HBW, Lib.hid ⟨base, hbase, HR6.out⟩⟩
                case measure => simp [intOf]; omega
            · have e0 : xs.take k3 = xs := List.take_of_length_le (by rw [HX.out]; omega)
              rw [e0, ← HB0.out] at HR
              clear e0
              go_wp2_with fail
              clear hlt hk3
              go_loopw [68] (fun i wr => ∃ (k4 : Nat), k4 ≤ m ∧ i = .int .i64 k4 ∧ Hid (Below w.heap.size w wr) ∧ Hid (Rd wr base g B (B0.length + (flatS (ss.take k4)).length) false)) (fun i _ => m - (intOf i).toNat)
              case atStart => exact ⟨0, by omega, rfl, HBW, HR⟩
              case round =>
                clear HBW HR
                obtain ⟨k4, hk4, rfl, HBW, HR⟩ := hrel
                by_cases hlt : k4 < m
                · obtain ⟨b, o, rfl, hc⟩ := strs_on HJ.out HBW.out (by omega)
                  have g1 := hc k4 hlt
                  have HS := Lib.hid (flatS_succ ss k4 (by rw [HY.out]; exact hlt))
                  have HD := Lib.hid (flatS_drop B0 ss k4 (by rw [HY.out]; exact hlt))
                  have hq : (ss.getD k4 ByteArray.empty).size ≤ 500 := by
                    rw [List.getD_eq_getElem?_getD, List.getElem?_eq_getElem (by rw [HY.out]; exact hlt)]
                    exact HSS.out _ (List.getElem_mem _)
                  generalize ss.getD k4 ByteArray.empty = s at *
                  clear hc
                  have HF := Lib.hid (found_text B (B0.length + (flatS (ss.take k4)).length) s _ (by omega) (by rw [HB.out]; exact HD.out))
                  have HP := Lib.hid (strL_ne (nums s))
                  go_wp2_with fail
                  refine (rstr_any base g B _ false (s.size : Int) _ HR.out).mono ?_
                  rw [HF.out]
                  intro e w6 ht
                  obtain ⟨rfl, hr6, _⟩ := id ht
                  rw [HP.out, Nat.add_assoc, ← List.length_append, ← HS.out] at hr6
                  have HR6 := Lib.hid hr6
                  have HB6 := Lib.hid (took_below ht HBW.out HBW.out.size hbase)
                  clear ht hr6
                  simp only [tS]
                  rw [str_nums]
                  go_wp2_with fail
                  go_roundw
                  case rel => exact ⟨k4 + 1, by omega, by go_num, HB6, HR6⟩
                  case measure => simp [intOf]; omega
                · have e0 : ss.take k4 = ss := List.take_of_length_le (by rw [HY.out]; omega)
                  rw [e0, ← List.length_append, ← HB.out] at HR
                  clear e0
                  go_wp2_with fail
                  refine (alive_any _).mono ?_
                  rintro e w5 ⟨rfl, hb5⟩
                  have HR5 := Lib.hid (HR.out.on hb5)
                  have HB5 := Lib.hid (seqB HBW.out hb5)
                  clear hb5
                  go_wp2_with fail
                  refine (end_any base g B _ _ _ HR5.out).mono ?_
                  rintro e w7 ⟨rfl, m7, hm⟩
                  have HR7 := Lib.hid (show Rd w7 base g B B.length false by rw [hm]; exact HR5.out.drewN m7)
                  have HB7 := Lib.hid (show Below w.heap.size w w7 by rw [hm]; exact below_drawn HB5.out m7)
                  clear hm
                  rw [show (!false && decide (B.length = B.length)) = true by simp]
                  go_wp2_with fail
                  refine (bad_any base g B _ _ _ HR7.out).mono ?_
                  rintro e w8 ⟨rfl, rfl⟩
                  go_wp2_with fail
                  go_ret
                  exact ⟨rfl, HB7.out⟩

theorem walk (p q : Option Addr) (n c m d : Nat) (xs : List Int) (ss : List ByteArray) (w : World) (hx : xs.length = n) (hy : ss.length = m) (hr : ∀ x ∈ xs, -9223372036854775808 ≤ x ∧ x ≤ 9223372036854775807) (hs : ∀ s ∈ ss, s.size ≤ 9223372036854775807)
    (hi : IntsIn w p n xs) (hj : StrsIn w q m ss) (hn : n ≤ 140737488355328) (hm : m ≤ 140737488355328) :
    Calls Try.prog 6 #[.slice p n c, .slice q m d] w fun e w' => e = .returned (.bool true) ∧ Below w.heap.size w w' := by
  by_cases h : 100 < n + m
  · exact walk_long p q n c m d hn hm h w
  · exact walk_main p q n c m d xs ss w hx hy hr hs hi hj (by omega)
end Go.Proofs.Ytanbggegbhcfhaa.lebRows

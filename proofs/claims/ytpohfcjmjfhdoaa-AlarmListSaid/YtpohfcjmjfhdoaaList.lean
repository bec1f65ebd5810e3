/-
  The walk of chicanelaw06.AlarmList: it returns true, whatever calls. Conditions: as each states.
-/
import Derived.Test.YtpohfcjmjfhdoaaW19
namespace Go.Proofs.Ytpohfcjmjfhdoaa.alarmList
open Go.RowKit Go.Sort Go.Maps

set_option maxRecDepth 100000 in
set_option maxHeartbeats 16000000 in
theorem walk (p : Option Addr) (m d : Nat) (os : List Call) (w : World) (hx : os.length = m) (_hmd : m ≤ d) (_hd : d ≤ 9223372036854775807) (hz : ∀ o ∈ os, Wf64 o.1 ∧ Wf64 o.2.1 ∧ Wf64 o.2.2) (hj : OpsIn w p m os) :
    Calls Try.prog 9 #[.slice p m d] w fun e w' => e = .returned (.bool true) ∧ Below w.heap.size w w' := by
  have HX := Lib.hid hx
  have HJ := Lib.hid hj
  have HZ := Lib.hid hz
  clear hx hz hj
  go_enter Try.func9, Try.ntmps9
  go_wp2_with fail
  refine (new_at w _ (Below.refl _ _)).mono ?_
  rintro e w1 ⟨rfl, ha⟩
  have HA1 := Lib.hid ha
  clear ha
  generalize w.heap.size + 1 = g at *
  obtain ⟨B, hB⟩ : ∃ B, w.heap.size = B := ⟨_, rfl⟩
  rw [hB] at HA1
  clear hB
  by_cases hm : 200 < m
  · go_wp2_with fail
    refine (alive_any _).mono ?_
    rintro e w5 ⟨rfl, hb5⟩
    have HB5 := Lib.hid (HA1.out.on hb5).below
    clear hb5
    go_wp2_with fail
    go_ret
    exact ⟨rfl, HB5.out⟩
  · go_wp2_with fail
    go_loopw [23] (fun i wr => ∃ (k : Nat) (L : List Due) (last : Int), k ≤ m ∧ i = .int .i64 k ∧ Hid (At w B g L last wr) ∧ Hid (last ≤ k)) (fun i _ => m - (intOf i).toNat)
    case atStart => exact ⟨0, [], 0, by omega, rfl, HA1, Lib.hid (by omega)⟩
    case round =>
      obtain ⟨k, L, last, hk, rfl, HA, HL⟩ := hrel
      by_cases hlt : k < m
      · obtain ⟨b, o, rfl, hcell⟩ := ops_on HJ.out HA.out.below (by omega)
        obtain ⟨c0, c1, c2⟩ := hcell k hlt
        have hzk := HZ.out _ (at_of os k (by rw [HX.out]; exact hlt))
        generalize os.getD k noCall = O at *
        obtain ⟨kd, a, id⟩ := O
        simp only at c0 c1 c2
        rw [← Nat.add_assoc] at c1 c2
        have HID := Lib.hid hzk.2.2
        have hbl := World.block_lt_of_cell? wr _ c0
        have HA2 := Lib.hid (HA.out.on ((Below.refl wr.heap.size wr).alloc (Nat.le_refl _) (.cells #[.int .i64 kd, .int .i64 a, .int .i64 id] 30)))
        have HDL := Lib.hid (do_last L last kd a id)
        clear hcell hzk
        go_wp2_with fail
        refine (does_k HA2.out (by have := HL.out; omega) HID.out).mono ?_
        rintro e w3 ⟨q, n, c, rfl, _, ha3, _⟩
        have HA3 := Lib.hid ha3
        clear ha3 c0 c1 c2 HA2
        go_wp2_with fail
        go_roundw
        case rel => exact ⟨k + 1, _, _, by omega, by go_num, HA3, Lib.hid (by have := HDL.out; have := HL.out; simp only [Int.natCast_add]; omega)⟩
        case measure => simp [intOf]; omega
      · clear HA1
        have hbd := HA.out.bounds
        have hbd2 := HL.out
        obtain ⟨n, hn⟩ : ∃ n, L.length = n := ⟨_, rfl⟩
        have hn1 : n ≤ 1000 := by omega
        have HN := Lib.hid hn
        have HTk := Lib.hid (show dueN L 1099511627776 = n from by rw [due_all (fun d hd => (HA.out.rg d hd).1.2), hn])
        clear hbd hbd2 hn
        go_wp2_with fail
        refine (list_k HA.out HN.out).mono ?_
        rintro e w2 ⟨⟨q, c, rfl, ho⟩, hb⟩
        have HO := Lib.hid ho
        have HA2 := Lib.hid (HA.out.on hb)
        clear ho hb HA
        go_wp2_with fail
        refine (rows_got HO.out (by omega)).mono ?_
        rintro e w3 ⟨q', c', rfl, hr, hb⟩
        have HR3 := Lib.hid hr
        have HA3 := Lib.hid (HA2.out.on hb)
        clear hr hb HO HA2
        go_wp2_with fail
        refine (len_at HA3.out HN.out).mono ?_
        rintro e w4 ⟨rfl, rfl⟩
        go_wp2_with fail
        refine (alive_any _).mono ?_
        rintro e w4 ⟨rfl, hb⟩
        have HR4 := Lib.hid (row_on HR3.out hb)
        have HA4 := Lib.hid (HA3.out.on hb)
        clear hb HR3 HA3
        go_wp2_with fail
        refine (take_k HA4.out 1099511627776 HTk.out (O := L) (D := []) (by rw [← HN.out, List.take_length]) (by rw [← HN.out, List.drop_length])).mono ?_
        rintro e w5 ⟨⟨q5, d5, rfl, ho5⟩, ha5, hk5⟩
        have HO5 := Lib.hid ho5
        have HA5 := Lib.hid ha5
        have HR5 := Lib.hid (row_keeps HR4.out hk5)
        clear ho5 ha5 hk5 HA4 HR4
        go_wp2_with fail
        refine (rows_got HO5.out (by omega)).mono ?_
        rintro e w6 ⟨q6, d6, rfl, hr6, hb6⟩
        have HR6 := Lib.hid (row_on HR5.out hb6)
        have HS6 := Lib.hid hr6
        have HA6 := Lib.hid (HA5.out.on hb6)
        clear hr6 hb6 HO5 HA5 HR5
        go_wp2_with fail
        refine (same_rows HS6.out HR6.out (same_refl _)).mono ?_
        rintro e w7 ⟨rfl, hb7⟩
        have HA7 := Lib.hid (HA6.out.on hb7)
        clear hb7 HA6 HS6 HR6
        go_wp2_with fail
        refine (len_at HA7.out (n := 0) rfl).mono ?_
        rintro e w8 ⟨rfl, rfl⟩
        go_wp2_with fail
        refine (list_k HA7.out (n := 0) rfl).mono ?_
        rintro e w9 ⟨⟨q9, c9, rfl, _⟩, hb9⟩
        have HE := Lib.hid (HA7.out.on hb9).below
        clear hb9 HA7
        go_wp2_with fail
        go_ret
        exact ⟨ret_bool (by simp), HE.out⟩
end Go.Proofs.Ytpohfcjmjfhdoaa.alarmList

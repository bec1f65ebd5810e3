/-
  The walk of chicanelaw11.ChainDrains: it returns true, whatever texts. Conditions: as each states.
-/
import Derived.Test.YtfdfgnmgpgkknaaVQ
namespace Go.Proofs.Ytfdfgnmgpgkknaa
open Go.RowKit
namespace Ch
variable {c c1 : Ch} {i u : ByteArray}
theorem put_s (c : Ch) (now n : Int) (b : ByteArray) (t : Tox) (sd : Int) : (c.doA ⟨0, now, n, b, t, sd⟩).s = ⟨#[]⟩ := by
  unfold doA
  rw [if_pos rfl]
  split <;> rfl
theorem Dr.put (h : Dr c i u) (hs : St3 c) (now : Int) (b : ByteArray) {n1 : Int} (e1 : c.doN ⟨0, now, 0, b, noTox, 0⟩ = c1) (en : (c.doA ⟨0, now, 0, b, noTox, 0⟩).n = n1) : Dr c1 (i ++ b.extract 0 n1.toNat) u ∧ 0 ≤ n1 ∧ n1 ≤ b.size := by
  have ha := hs.ans ⟨0, now, 0, b, noTox, 0⟩ (by rw [h.two.len]; decide)
  have d1 := h.do ⟨0, now, 0, b, noTox, 0⟩ (Or.inl rfl) (fun k => ⟨ha.1, ha.2 k⟩)
  rw [put_s, cat_none, if_pos rfl, e1, en] at d1
  rw [en] at ha
  exact ⟨d1, ha.1, ha.2 rfl⟩
theorem Dr.step (h : Dr c i u) (now : Int) (e1 : c.doN ⟨3, now, 0, ⟨#[]⟩, noTox, 0⟩ = c1) : Dr c1 i u := by
  have d1 := h.do ⟨3, now, 0, ⟨#[]⟩, noTox, 0⟩ (by simp) (fun k => absurd k (by show ¬ ((3 : Int) = 0); decide))
  have ha1 : (c.doA ⟨3, now, 0, ⟨#[]⟩, noTox, 0⟩).s = ⟨#[]⟩ := rfl
  rw [ha1, if_neg (show ¬ ((3 : Int) = 0) by decide), cat_none, cat_none, e1] at d1
  exact d1
theorem Dr.take (h : Dr c i u) (now most : Int) {T : ByteArray} (e1 : c.doN ⟨4, now, most, ⟨#[]⟩, noTox, 0⟩ = c1) (ea : (c.doA ⟨4, now, most, ⟨#[]⟩, noTox, 0⟩).s = T) : Dr c1 i (u ++ T) := by
  have d1 := h.do ⟨4, now, most, ⟨#[]⟩, noTox, 0⟩ (by simp) (fun k => absurd k (by show ¬ ((4 : Int) = 0); decide))
  rw [if_neg (show ¬ ((4 : Int) = 0) by decide), cat_none, e1, ea] at d1
  exact d1
theorem Dr.round2 (h : Dr c i u) (h0 : c.state = 0) (hc : (c.at' 0).s.closed = true) (now most : Int) (hm : 1 ≤ most) {c2 : Ch} {T : ByteArray}
    (e1 : c.doN ⟨3, now, 0, ⟨#[]⟩, noTox, 0⟩ = c1) (e2 : c1.doN ⟨4, now, most, ⟨#[]⟩, noTox, 0⟩ = c2) (ea : (c1.doA ⟨4, now, most, ⟨#[]⟩, noTox, 0⟩).s = T) :
    Dr c2 i (u ++ T) ∧ (c2.state = 1 ∨ (c2.state = 0 ∧ (c2.at' 0).s.closed = true ∧ c2.held < c.held)) := by
  have := h.round h0 hc now most hm ⟨#[]⟩ ⟨#[]⟩ noTox noTox 0 0 0 e1 e2 rfl
  rw [ea] at this
  exact this
end Ch
theorem room_of {room : Int} (h : newE noTox room = 0) : 1 ≤ room := by
  have := (newE_ok h).2.1
  exact this
namespace chainDrains
theorem cat_size (a b : ByteArray) : (a ++ b).size = a.size + b.size := ByteArray.size_append
theorem cat_runs {a b c : ByteArray} (h : a ++ b = c) (ha : a.size ≤ 1100000) (hb : b.size ≤ 1100000) (w : World) : (Op.stringOp .add a b).run Try.prog w = .ok (.string c) w := by
  rw [← h]
  exact run_string_add w a b (by omega) (by omega)
theorem ret_bool {a b : Bool} (h : a = b) : Ending.returned (.bool a) = .returned (.bool b) := by rw [h]
def StrsIn (w : World) (p : Option Addr) (n : Nat) (ss : List ByteArray) : Prop := 0 < n → ∃ b o, p = some ⟨b, o, none⟩ ∧ ∀ i, i < n → w.cell? ⟨b, o + i, none⟩ = some (.string (ss.getD i ByteArray.empty))
theorem strs_on {w w' : World} {p : Option Addr} {n : Nat} {ss : List ByteArray} (h : StrsIn w p n ss) (hb : Below w.heap.size w w') : StrsIn w' p n ss := fun hn => by
  obtain ⟨b, o, e, hc⟩ := h hn
  exact ⟨b, o, e, fun i hi => (hb.cell (World.block_lt_of_cell? w _ (hc i hi))).trans (hc i hi)⟩
set_option maxRecDepth 100000 in
set_option maxHeartbeats 8000000 in
theorem no_new (room : Int) (h : newE noTox room ≠ 0) (p : Option Addr) (m d : Nat) (most : Int) (w : World) :
    Calls Try.prog 7 #[.int .i64 room, .slice p m d, .int .i64 most] w fun e w' => e = .returned (.bool true) ∧ Below w.heap.size w w' := by
  have HN := Lib.hid (new_c_no (room := room) (now := 0) h w)
  have hE : (newE noTox room != 0) = true := by simpa using h
  generalize newE noTox room = E at *
  clear h
  go_enter Try.func7, Try.ntmps7
  go_wp2_with fail
  refine HN.out.mono ?_
  rintro e w2 ⟨rfl, hb⟩
  have HB2 := Lib.hid hb
  clear hb
  go_wp2_with fail
  refine (valive_any _).mono ?_
  rintro e w3 ⟨rfl, hb⟩
  have HB3 := Lib.hid (HB2.out.trans (hb.mono HB2.out.size))
  clear hb
  go_wp2_with fail
  go_ret
  exact ⟨rfl, HB3.out⟩
set_option maxRecDepth 100000 in
set_option maxHeartbeats 16000000 in
theorem walk (room : Int) (p : Option Addr) (m d : Nat) (ss : List ByteArray) (most : Int) (w : World) (hx : ss.length = m) (hj : StrsIn w p m ss) :
    Calls Try.prog 7 #[.int .i64 room, .slice p m d, .int .i64 most] w fun e w' => e = .returned (.bool true) ∧ Below w.heap.size w w' := by
  by_cases hE : newE noTox room ≠ 0
  · exact no_new room hE p m d most w
  have hE0 : newE noTox room = 0 := by omega
  have hrm := room_of hE0
  have HX := Lib.hid hx
  have HJ := Lib.hid hj
  have HN := Lib.hid (new_v (now := 0) hE0 w)
  have HD0 := Lib.hid (Ch.Dr.new room hrm)
  clear hE hx hj hE0 hrm
  go_enter Try.func7, Try.ntmps7
  go_wp2_with fail
  refine HN.out.mono ?_
  rintro e w2 ⟨g, U, rfl, h1⟩
  have HA2 := Lib.hid h1
  clear h1 HN
  by_cases hm : 20 < m
  · have dm : decide (20 < (m : Int)) = true := decide_eq_true (by omega)
    clear HD0 HX HJ
    go_wp2_with fail
    refine (valive_any _).mono ?_
    rintro e w5 ⟨rfl, hb5⟩
    have HB5 := Lib.hid (HA2.out.on hb5).2.2
    clear hb5
    go_wp2_with fail
    go_ret
    exact ⟨rfl, HB5.out⟩
  have dm : decide (20 < (m : Int)) = false := decide_eq_false (by omega)
  by_cases hmo : most < 1
  · have do1 : decide (most < 1) = true := decide_eq_true hmo
    clear HD0 HX HJ
    go_wp2_with fail
    refine (valive_any _).mono ?_
    rintro e w5 ⟨rfl, hb5⟩
    have HB5 := Lib.hid (HA2.out.on hb5).2.2
    clear hb5
    go_wp2_with fail
    go_ret
    exact ⟨rfl, HB5.out⟩
  have do1 : decide (most < 1) = false := decide_eq_false hmo
  go_wp2_with fail
  go_loopw [9, 10, 38] (fun vi vo i wr => ∃ (k : Nat) (c : Ch) (U' : Own) (I O : ByteArray), k ≤ m ∧ i = .int .i64 k ∧ vi = .string I ∧ vo = .string O ∧ Hid (CHd w wr U' g c (200 * k)) ∧ Hid (c.St3) ∧ Hid (Ch.Dr c I O ∧ I.size ≤ 200 * k)) (fun _ _ i _ => m - (intOf i).toNat)
  case atStart => exact ⟨0, _, U, ⟨#[]⟩, ⟨#[]⟩, by omega, rfl, rfl, rfl, HA2, Lib.hid (Ch.St3.new room 0), Lib.hid ⟨HD0.out, Nat.zero_le _⟩⟩
  case round =>
    clear HA2 HD0
    obtain ⟨k, c, U1, I, O, hk, rfl, rfl, rfl, HA, HS3, HE⟩ := hrel
    by_cases hlt : k < m
    · obtain ⟨b, o, rfl, hcell⟩ := strs_on HJ.out HA.out.2.2 (by omega)
      have c0 := hcell k hlt
      generalize ss.getD k ByteArray.empty = T at *
      clear hcell
      by_cases hT : 200 < T.size
      · have dT : decide (200 < (T.size : Int)) = true := decide_eq_true (by omega)
        clear HS3 HE
        go_wp2_with fail
        refine (valive_any _).mono ?_
        rintro e w5 ⟨rfl, hb5⟩
        have HB5 := Lib.hid (HA.out.on hb5).2.2
        clear hb5
        go_wp2_with fail
        go_ret
        exact ⟨rfl, HB5.out⟩
      have dT : decide (200 < (T.size : Int)) = false := decide_eq_false (by omega)
      obtain ⟨cc, w3, hcv, hbi, hb3, _, _, hnc⟩ := gc.conv_text T (by omega) wr
      obtain ⟨c1, hc1⟩ : ∃ c1, c.doN ⟨0, (k : Int), 0, T, noTox, 0⟩ = c1 := ⟨_, rfl⟩
      obtain ⟨n1, hn1⟩ : ∃ n1, (c.doA ⟨0, (k : Int), 0, T, noTox, 0⟩).n = n1 := ⟨_, rfl⟩
      obtain ⟨c2, hc2⟩ : ∃ c2, c1.doN ⟨3, (k : Int), 0, ⟨#[]⟩, noTox, 0⟩ = c2 := ⟨_, rfl⟩
      obtain ⟨c3, hc3⟩ : ∃ c3, c2.doN ⟨4, (k : Int), most, ⟨#[]⟩, noTox, 0⟩ = c3 := ⟨_, rfl⟩
      obtain ⟨Y, hY⟩ : ∃ Y, (c2.doA ⟨4, (k : Int), most, ⟨#[]⟩, noTox, 0⟩).s = Y := ⟨_, rfl⟩
      obtain ⟨hd1, hn0, hnT⟩ := HE.out.1.put HS3.out k T hc1 hn1
      have hd3 := (hd1.step k hc2).take k most hc3 hY
      have hl := HA.out.len
      have hs1 := HS3.out.do ⟨0, (k : Int), 0, T, noTox, 0⟩ hl.1
      rw [hc1] at hs1
      have hs2 := hs1.do ⟨3, (k : Int), 0, ⟨#[]⟩, noTox, 0⟩ (by rw [hd1.two.len]; decide)
      rw [hc2] at hs2
      have hs3 := hs2.do ⟨4, (k : Int), most, ⟨#[]⟩, noTox, 0⟩ (by rw [(hd1.step k hc2).two.len]; decide)
      rw [hc3] at hs3
      have HS4 := Lib.hid hs3
      obtain ⟨I2, hI2⟩ : ∃ I2, I ++ T.extract 0 n1.toNat = I2 := ⟨_, rfl⟩
      obtain ⟨O2, hO2⟩ : ∃ O2, O ++ Y = O2 := ⟨_, rfl⟩
      have hIs := HE.out.2
      have hex : (T.extract 0 n1.toNat).size ≤ 200 := by rw [ByteArray.size_extract]; omega
      have hI2s : I2.size ≤ 200 * (k + 1) := by rw [← hI2, cat_size]; omega
      rw [hI2, hO2] at hd3
      have hbl := hd3.bal
      have hOs : O.size + Y.size = O2.size := by rw [← hO2, cat_size]
      have r1 := fun W => cat_runs hI2 (by omega) (by omega) W
      have r2 := fun W => cat_runs hO2 (by omega) (by omega) W
      have HREL := Lib.hid (show Ch.Dr c3 I2 O2 ∧ I2.size ≤ 200 * (k + 1) from ⟨hd3, hI2s⟩)
      have d0 : decide (n1 < 0) = false := decide_eq_false (by omega)
      have d1 : decide ((T.size : Int) < n1) = false := decide_eq_false (by omega)
      have HA3 := Lib.hid (HA.out.on hb3)
      have HP := Lib.hid (put_v (M' := 200 * (k + 1)) HA3.out.1 k 0 noTox 0 rfl hbi (by omega) (by omega) (by omega))
      rw [hc1, hn1] at HP
      clear hs1 hs2 hs3 hd1 hd3 hl hb3 hbi hn1 hc1 hI2 hO2 hIs hex hI2s hbl hOs HS3 HE HA
      go_wp2_with fail
      refine HP.out.mono ?_
      rintro e w4 ⟨rfl, hs⟩
      obtain ⟨U4, h4, _⟩ := HA3.out.step hs
      have HS := Lib.hid (step_v h4.1 k 0 ⟨#[]⟩ noTox 0)
      rw [hc2] at HS
      have HA4 := Lib.hid h4
      clear hs h4 HP HA3 hcv hc2 c0
      go_wp2_with fail
      refine HS.out.mono ?_
      rintro e w5 ⟨rfl, hs⟩
      obtain ⟨U5, h5, _⟩ := HA4.out.step hs
      have HTK := Lib.hid (take_v h5.1 k most ⟨#[]⟩ noTox 0)
      rw [hc3, hY] at HTK
      have HA5 := Lib.hid h5
      clear hs h5 HS HA4 hc3 hY
      go_wp2_with fail
      refine HTK.out.mono ?_
      rintro e w6 ⟨q6, d6, rfl, hi6, hd6, hd6', hs⟩
      obtain ⟨U6, h6, _⟩ := HA5.out.step hs
      have HA6 := Lib.hid h6
      have cv := gc.got_text (d := d6) hi6 rfl
      clear hs h6 HTK HA5 hi6
      go_wp2_with fail
      go_roundw
      case rel => exact ⟨k + 1, c3, U6, I2, O2, by omega, by go_num, rfl, rfl, HA6, HS4, HREL⟩
      case measure => simp [intOf]; omega
    · obtain rfl : k = m := by omega
      obtain ⟨c1, hc1⟩ : ∃ c1, c.doN ⟨1, (k : Int), 0, ⟨#[]⟩, noTox, 0⟩ = c1 := ⟨_, rfl⟩
      have hsh := HE.out.1.shut k 0 0 ⟨#[]⟩ noTox hc1
      have HSH := Lib.hid hsh
      have HIZ := Lib.hid (show I.size ≤ 4000 by have := HE.out.2; omega)
      have HC := Lib.hid (close_v HA.out.1 k 0 ⟨#[]⟩ noTox 0)
      rw [hc1] at HC
      clear hlt hk hsh hc1 HE HS3
      go_wp2_with fail
      refine HC.out.mono ?_
      rintro e w4 ⟨rfl, hs⟩
      obtain ⟨U4, h4, _⟩ := HA.out.step hs
      have HA4 := Lib.hid (h4.mono (M' := 4000) (by omega) (by decide))
      clear hs h4 HC HA
      go_wp2_with fail
      go_loopw [10, 14] (fun vo i wr => ∃ (j : Nat) (c : Ch) (U' : Own) (O : ByteArray), j ≤ 5000 ∧ i = .int .i64 j ∧ vo = .string O ∧ Hid (CHd w wr U' g c 4000) ∧ Hid (Ch.Dr c I O) ∧ Hid (c.state = 1 ∨ (c.state = 0 ∧ (c.at' 0).s.closed = true ∧ c.held + j ≤ 4000))) (fun _ i _ => 5000 - (intOf i).toNat)
      case atStart =>
        refine ⟨0, c1, U4, O, by omega, rfl, rfl, HA4, Lib.hid HSH.out.1, Lib.hid ?_⟩
        rcases HSH.out.1.st with f | f
        · exact Or.inr ⟨f, HSH.out.2 f, by have := HSH.out.1.bal; have := HIZ.out; omega⟩
        · exact Or.inl f.1
      case round =>
        clear HA4 HSH
        obtain ⟨j, c, U5, O, hj, rfl, rfl, HA, HD, HC⟩ := hrel
        rcases HC.out with hst | ⟨hst, hcl, hhj⟩
        · by_cases hj5 : j < 5000
          · have dj : decide ((j : Int) < 5000) = true := decide_eq_true (by omega)
            have HV0 := Lib.hid (state_v HA.out.1)
            rw [hst] at HV0
            go_wp2_with fail
            refine HV0.out.mono ?_
            rintro e w8 ⟨rfl, rfl⟩
            clear HV0
            obtain ⟨rfl, hz0⟩ := HD.out.fin hst
            go_wp2_with fail
            refine (valive_any _).mono ?_
            rintro e w9 ⟨rfl, hb9⟩
            have HA9 := Lib.hid (HA.out.on hb9)
            have HV1 := Lib.hid (state_v HA9.out.1)
            have HV2 := Lib.hid (held_v HA9.out.1)
            rw [hst] at HV1
            rw [hz0] at HV2
            clear hb9 HA HD HC hst hz0
            go_wp2_with fail
            refine HV1.out.mono ?_
            rintro e w8 ⟨rfl, rfl⟩
            go_wp2_with fail
            refine HV2.out.mono ?_
            rintro e w8 ⟨rfl, rfl⟩
            clear HV1 HV2
            go_wp2_with fail
            go_ret
            exact ⟨ret_bool (by simp), HA9.out.2.2⟩
          · have dj : decide ((j : Int) < 5000) = false := decide_eq_false (by omega)
            obtain ⟨rfl, hz0⟩ := HD.out.fin hst
            go_wp2_with fail
            refine (valive_any _).mono ?_
            rintro e w9 ⟨rfl, hb9⟩
            have HA9 := Lib.hid (HA.out.on hb9)
            have HV1 := Lib.hid (state_v HA9.out.1)
            have HV2 := Lib.hid (held_v HA9.out.1)
            rw [hst] at HV1
            rw [hz0] at HV2
            clear hb9 HA HD HC hst hz0
            go_wp2_with fail
            refine HV1.out.mono ?_
            rintro e w8 ⟨rfl, rfl⟩
            go_wp2_with fail
            refine HV2.out.mono ?_
            rintro e w8 ⟨rfl, rfl⟩
            clear HV1 HV2
            go_wp2_with fail
            go_ret
            exact ⟨ret_bool (by simp), HA9.out.2.2⟩
        · have dj : decide ((j : Int) < 5000) = true := decide_eq_true (by omega)
          have HV0 := Lib.hid (state_v HA.out.1)
          rw [hst] at HV0
          obtain ⟨c2, hc2⟩ : ∃ c2, c.doN ⟨3, (k : Int), 0, ⟨#[]⟩, noTox, 0⟩ = c2 := ⟨_, rfl⟩
          obtain ⟨c3, hc3⟩ : ∃ c3, c2.doN ⟨4, (k : Int), most, ⟨#[]⟩, noTox, 0⟩ = c3 := ⟨_, rfl⟩
          obtain ⟨Y, hY⟩ : ∃ Y, (c2.doA ⟨4, (k : Int), most, ⟨#[]⟩, noTox, 0⟩).s = Y := ⟨_, rfl⟩
          obtain ⟨hd3, hr3⟩ := HD.out.round2 hst hcl k most (by omega) hc2 hc3 hY
          obtain ⟨O2, hO2⟩ : ∃ O2, O ++ Y = O2 := ⟨_, rfl⟩
          rw [hO2] at hd3
          have hbl := hd3.bal
          have hiz := HIZ.out
          have hOs : O.size + Y.size = O2.size := by rw [← hO2, cat_size]
          have r2 := fun W => cat_runs hO2 (by omega) (by omega) W
          have HD3 := Lib.hid hd3
          have HR3 := Lib.hid (show c3.state = 1 ∨ (c3.state = 0 ∧ (c3.at' 0).s.closed = true ∧ c3.held + (j + 1) ≤ 4000) from by
            rcases hr3 with f | ⟨f, f1, f2⟩
            · exact Or.inl f
            · exact Or.inr ⟨f, f1, by omega⟩)
          have HS := Lib.hid (step_v HA.out.1 k 0 ⟨#[]⟩ noTox 0)
          rw [hc2] at HS
          have hj5 : j < 5000 := by omega
          clear hd3 hr3 hO2 hbl hiz hOs HD HC hst hcl hhj hc2
          go_wp2_with fail
          refine HV0.out.mono ?_
          rintro e w8 ⟨rfl, rfl⟩
          clear HV0
          go_wp2_with fail
          refine HS.out.mono ?_
          rintro e w5 ⟨rfl, hs⟩
          obtain ⟨U6, h5, _⟩ := HA.out.step hs
          have HTK := Lib.hid (take_v h5.1 k most ⟨#[]⟩ noTox 0)
          rw [hc3, hY] at HTK
          have HA5 := Lib.hid h5
          clear hs h5 HS HA hc3 hY
          go_wp2_with fail
          refine HTK.out.mono ?_
          rintro e w6 ⟨q6, d6, rfl, hi6, hd6, hd6', hs⟩
          obtain ⟨U7, h6, _⟩ := HA5.out.step hs
          have HA6 := Lib.hid h6
          have cv := gc.got_text (d := d6) hi6 rfl
          clear hs h6 HTK HA5 hi6
          go_wp2_with fail
          go_roundw
          case rel => exact ⟨j + 1, c3, U7, O2, by omega, by go_num, rfl, HA6, HD3, HR3⟩
          case measure => simp [intOf]; omega
end chainDrains
end Go.Proofs.Ytfdfgnmgpgkknaa

/-
  The walk of chicanelaw10.StageKeeps: it returns true, whatever calls. Conditions: as each states.
-/
import Derived.Test.YtlbihcpglcdmmaaZL
namespace Go.Proofs.Ytlbihcpglcdmmaa
open Go.RowKit

/-- What a toxic, and a seat, that came in are. -/
def seatV (t : Tox) (seed room now : Int) : Value := .agg #[.string t.s, .int .i64 t.k, .bool t.up, .int .i64 t.o, .int .i64 t.a, .int .i64 t.b, .int .u64 seed, .int .i64 room, .int .i64 now]
theorem cat_assoc (a b c : ByteArray) : (a ++ b) ++ c = a ++ (b ++ c) := ByteArray.append_assoc
theorem cat_size (a b : ByteArray) : (a ++ b).size = a.size + b.size := ByteArray.size_append
theorem cat_runs {a b c : ByteArray} (h : a ++ b = c) (ha : a.size ≤ 1100000) (hb : b.size ≤ 1100000) (w : World) : (Op.stringOp .add a b).run Try.prog w = .ok (.string c) w := by
  rw [← h]
  exact run_string_add w a b (by omega) (by omega)
theorem block_kept {w w' : World} {U U' : Own} {go : Nat} {o : Obj} (hr : Rest w U w' U') (hu : ¬ U go) (hg : w.heap[go]? = some o) : w'.heap[go]? = some o ∧ ¬ U' go :=
  ⟨(hr go (blk_lt hg) hu).1.trans hg, (hr go (blk_lt hg) hu).2⟩
/-- What comes in at a call is no longer than the call's own bytes. -/
theorem in_size (s : St) (o : Op) : (inS s o).size ≤ o.s.size := by
  unfold inS
  split
  · rw [ByteArray.size_extract]; omega
  · split
    · exact Nat.le_refl _
    · exact Nat.zero_le _
theorem in_put {s : St} {o : Op} (h : o.kind = 0) : inS s o = o.s.extract 0 (doS (lookS s o.now) o).2.n.toNat := by unfold inS; rw [if_pos h]
theorem in_force {s : St} {o : Op} (h : o.kind = 1) (hs : (lookS s o.now).st = 0) : inS s o = o.s := by unfold inS; rw [if_neg (by omega), if_pos ⟨h, hs⟩]
theorem in_none {s : St} {o : Op} (h : o.kind ≠ 0) (hs : o.kind ≠ 1 ∨ (lookS s o.now).st ≠ 0) : inS s o = ⟨#[]⟩ := by
  unfold inS
  rw [if_neg h, if_neg (fun hx => by rcases hs with e | e; exact e hx.1; exact e hx.2)]
theorem ret_bool {a b : Bool} (h : a = b) : Ending.returned (.bool a) = .returned (.bool b) := by rw [h]
namespace stageKeeps
set_option maxRecDepth 100000 in
set_option maxHeartbeats 8000000 in
theorem no_new (t : Tox) (ht : t.s.size ≤ maxLen) (seed room now : Int) (h : newE t room ≠ 0) (p : Option Addr) (m d : Nat) (w : World) :
    Calls Try.prog 3 #[seatV t seed room now, .slice p m d] w fun e w' => e = .returned (.bool true) ∧ Below w.heap.size w w' := by
  obtain ⟨ts, tk, tu, to, ta, tb⟩ := t
  have HN := Lib.hid (fun W => new_no (seed := seed) (now := now) ht h W)
  have hE : (newE ⟨ts, tk, tu, to, ta, tb⟩ room != 0) = true := by simpa using h
  generalize newE ⟨ts, tk, tu, to, ta, tb⟩ room = E at *
  unfold Tox.v at HN
  unfold seatV
  simp only at HN ⊢
  have HB := Lib.hid (show Below w.heap.size w (w.alloc (.cells #[.string ts, .int .i64 tk, .bool tu, .int .i64 to, .int .i64 ta, .int .i64 tb, .int .u64 seed, .int .i64 room, .int .i64 now] 26)) from (Below.refl _ _).alloc (Nat.le_refl _) _)
  clear h ht
  go_enter Try.func3, Try.ntmps3
  go_wp2_with fail
  generalize w.alloc (.cells #[.string ts, .int .i64 tk, .bool tu, .int .i64 to, .int .i64 ta, .int .i64 tb, .int .u64 seed, .int .i64 room, .int .i64 now] 26) = w1 at *
  refine (HN.out _).mono ?_
  rintro e w2 ⟨rfl, hb⟩
  have HB2 := Lib.hid (HB.out.trans (hb.mono HB.out.size))
  clear hb
  go_wp2_with fail
  refine (alive_any _).mono ?_
  rintro e w3 ⟨rfl, hb⟩
  have HB3 := Lib.hid (HB2.out.trans (hb.mono HB2.out.size))
  clear hb
  go_wp2_with fail
  go_ret
  exact ⟨rfl, HB3.out⟩
set_option maxRecDepth 100000 in
set_option maxHeartbeats 16000000 in
theorem walk (t : Tox) (ht : t.s.size ≤ maxLen) (seed room now : Int) (p : Option Addr) (m d : Nat) (os : List Op) (w : World) (hx : os.length = m) (hmd : m ≤ d) (hd : d ≤ 9223372036854775807) (hz : ∀ o ∈ os, o.s.size ≤ 140737488351232 ∧ o.t.s.size ≤ maxLen) (hj : OpsIn w p m os) :
    Calls Try.prog 3 #[seatV t seed room now, .slice p m d] w fun e w' => e = .returned (.bool true) ∧ Below w.heap.size w w' := by
  by_cases hE : newE t room ≠ 0
  · exact no_new t ht seed room now hE p m d w
  have hE0 : newE t room = 0 := by omega
  have HX := Lib.hid hx
  have HJ := Lib.hid hj
  have HZ := Lib.hid hz
  clear hE
  obtain ⟨s0, hs0⟩ : ∃ s0, newS t seed room now = s0 := ⟨_, rfl⟩
  have HS0 := Lib.hid (show s0.S = ⟨#[]⟩ by rw [← hs0]; rfl)
  have HN := Lib.hid (fun W => new_ok (seed := seed) (now := now) ht hE0 W)
  rw [hs0] at HN
  obtain ⟨ts, tk, tu, to, ta, tb⟩ := t
  unfold Tox.v at HN
  unfold seatV
  simp only at HN ⊢
  have HB := Lib.hid (show Below w.heap.size w (w.alloc (.cells #[.string ts, .int .i64 tk, .bool tu, .int .i64 to, .int .i64 ta, .int .i64 tb, .int .u64 seed, .int .i64 room, .int .i64 now] 26)) from (Below.refl _ _).alloc (Nat.le_refl _) _)
  clear hx hz hj hs0 ht hE0
  go_enter Try.func3, Try.ntmps3
  go_wp2_with fail
  generalize w.alloc (.cells #[.string ts, .int .i64 tk, .bool tu, .int .i64 to, .int .i64 ta, .int .i64 tb, .int .u64 seed, .int .i64 room, .int .i64 now] 26) = w1 at *
  refine (HN.out _).mono ?_
  rintro e w2 ⟨g, U, rfl, hr, hu, hb⟩
  have HA2 := Lib.hid (show Hd w w2 U g s0 0 from ⟨hr, fun i hi => Nat.le_trans HB.out.size (hu i hi), HB.out.trans (hb.mono HB.out.size)⟩)
  clear hr hu hb HB HN
  go_wp2_with fail
  refine (few_any p m d os _ HX.out hmd hd (fun o ho => (HZ.out o ho).1) (ops_on HJ.out HA2.out.2.2)).mono ?_
  rintro e w3 ⟨b, rfl, hf, hb⟩
  have HA3 := Lib.hid (HA2.out.on hb)
  have HF := Lib.hid hf
  clear hb hf HA2 hmd hd
  cases b with
  | false =>
    clear HF
    go_wp2_with fail
    refine (alive_any _).mono ?_
    rintro e w5 ⟨rfl, hb5⟩
    have HB5 := Lib.hid (HA3.out.on hb5).2.2
    clear hb5
    go_wp2_with fail
    go_ret
    exact ⟨rfl, HB5.out⟩
  | true =>
    obtain ⟨hm, htt⟩ := HF.out rfl
    have HT := Lib.hid htt
    clear HF htt
    go_wp2_with fail
    go_loopw [7, 8, 39] (fun vi vo i wr => ∃ (k : Nat) (s : St) (U' : Own) (I O : ByteArray), k ≤ m ∧ i = .int .i64 k ∧ vi = .string I ∧ vo = .string O ∧ Hid (Hd w wr U' g s (total (os.take k))) ∧ Hid (O ++ s.S = I) ∧ Hid (I.size ≤ total (os.take k))) (fun _ _ i _ => m - (intOf i).toNat)
    case atStart => exact ⟨0, s0, U, ⟨#[]⟩, ⟨#[]⟩, by omega, rfl, rfl, rfl, HA3, Lib.hid (by rw [HS0.out]; rfl), Lib.hid (Nat.zero_le _)⟩
    case round =>
      clear HA3
      obtain ⟨k, s, U1, I, O, hk, rfl, rfl, rfl, HA, HE, HL⟩ := hrel
      have HSO := Lib.hid (show O.size + s.S.size = I.size by rw [← HE.out, cat_size])
      by_cases hlt : k < m
      · obtain ⟨b, o, rfl, hcell⟩ := ops_on HJ.out HA.out.2.2 (by omega)
        obtain ⟨c0, c1, c2, c3, c4, c5, c6, c7, c8, c9⟩ := hcell k hlt
        have hzk := HZ.out _ (at_of os k (by rw [HX.out]; exact hlt))
        have HTK := Lib.hid (total_step os k m HX.out hlt _ rfl)
        have HTL := Lib.hid (Nat.le_trans (total_take_le os (k + 1)) HT.out)
        generalize os.getD k noOp = op at *
        have HZK := Lib.hid hzk
        have hkeep := do_keeps s op
        have hin := in_size s op
        have HDN := Lib.hid (fun h => do_n (lookS s op.now) op h)
        have HI0 := Lib.hid (fun h => in_put (s := s) (o := op) h)
        have HI1 := Lib.hid (fun h h' => in_force (s := s) (o := op) h h')
        have HI2 := Lib.hid (fun h h' => in_none (s := s) (o := op) h h')
        obtain ⟨kd, T, N, b0, tx⟩ := op
        obtain ⟨us, uk, uu, uo, ua, ub⟩ := tx
        simp only at c0 c1 c2 c3 c4 c5 c6 c7 c8 c9 HTK HZK hkeep hin HDN HI0 HI1 HI2
        rw [← Nat.add_assoc] at c1 c2 c3 c4 c5 c6 c7 c8 c9
        have HSS := Lib.hid (show b0.size ≤ 2000 by have h1 := HTK.out; have h2 := HTL.out; omega)
        have HSZ := Lib.hid (show I.size ≤ 2000 by have h1 := HL.out; have h2 := HTK.out; have h3 := HTL.out; omega)
        clear hcell hzk
        obtain ⟨X, hX⟩ : ∃ X, (lookS s T).st = X := ⟨_, rfl⟩
        obtain ⟨s1, hs1⟩ : ∃ s1, (doS (lookS s T) ⟨kd, T, N, b0, ⟨us, uk, uu, uo, ua, ub⟩⟩).1 = s1 := ⟨_, rfl⟩
        obtain ⟨a1, ha1⟩ : ∃ a1, (doS (lookS s T) ⟨kd, T, N, b0, ⟨us, uk, uu, uo, ua, ub⟩⟩).2 = a1 := ⟨_, rfl⟩
        rw [hs1, ha1] at hkeep
        rw [ha1] at HDN HI0
        rw [hX] at HI1 HI2
        have HKP := Lib.hid hkeep
        obtain ⟨J, hJ⟩ : ∃ J, inS s ⟨kd, T, N, b0, ⟨us, uk, uu, uo, ua, ub⟩⟩ = J := ⟨_, rfl⟩
        rw [hJ] at HKP hin HI0 HI1 HI2
        have HIN := Lib.hid hin
        have hal : Below wr.heap.size wr (wr.alloc (.cells #[.int .i64 kd, .int .i64 T, .int .i64 N, .string b0, .string us, .int .i64 uk, .bool uu, .int .i64 uo, .int .i64 ua, .int .i64 ub] 35)) := (Below.refl _ _).alloc (Nat.le_refl _) _
        have HA4 := Lib.hid (HA.out.on hal)
        have HO4 := Lib.hid (heap_alloc_new wr (.cells #[.int .i64 kd, .int .i64 T, .int .i64 N, .string b0, .string us, .int .i64 uk, .bool uu, .int .i64 uo, .int .i64 ua, .int .i64 ub] 35))
        have HU4 := Lib.hid (HA.out.new (Nat.le_refl _))
        clear hal HA hkeep hin hJ
        go_wp2_with fail
        generalize wr.alloc (.cells #[.int .i64 kd, .int .i64 T, .int .i64 N, .string b0, .string us, .int .i64 uk, .bool uu, .int .i64 uo, .int .i64 ua, .int .i64 ub] 35) = w4 at *
        generalize wr.heap.size = go at *
        refine (state_i HA4.out.1 T).mono ?_
        rintro e w5 ⟨rfl, hs⟩
        rw [hX]
        obtain ⟨U5, h5, hr5⟩ := HA4.out.step hs
        have hk5 := block_kept hr5 HU4.out HO4.out
        have HA5 := Lib.hid h5
        have HO5 := Lib.hid hk5.1
        have HU5 := Lib.hid hk5.2
        clear hs h5 hr5 hk5 HA4 HO4 HU4 c0 c1 c2 c3 c4 c5 c6 c7 c8 c9
        have o0 := cell_of_row w5 go 0 _ _ _ HO5.out
        have o1 := cell_of_row w5 go 1 _ _ _ HO5.out
        have o2 := cell_of_row w5 go 2 _ _ _ HO5.out
        have o3 := cell_of_row w5 go 3 _ _ _ HO5.out
        have o4 := cell_of_row w5 go 4 _ _ _ HO5.out
        have o5 := cell_of_row w5 go 5 _ _ _ HO5.out
        have o6 := cell_of_row w5 go 6 _ _ _ HO5.out
        have o7 := cell_of_row w5 go 7 _ _ _ HO5.out
        have o8 := cell_of_row w5 go 8 _ _ _ HO5.out
        have o9 := cell_of_row w5 go 9 _ _ _ HO5.out
        have HDs := Lib.hid (does_any (M' := total (os.take (k + 1))) HA5.out ⟨kd, T, N, b0, ⟨us, uk, uu, uo, ua, ub⟩⟩ HZK.out.2 (by rw [HTK.out]; exact Nat.le_refl _) (by have := HTL.out; omega))
        rw [hs1, ha1] at HDs
        unfold opV at HDs
        simp only at HDs
        clear hs1 ha1
        go_wp2_with fail
        refine HDs.out.mono ?_
        rintro e w6 ⟨rfl, U6, h6, hr6⟩
        have hk6 := block_kept hr6 HU5.out HO5.out
        have hal : Below w6.heap.size w6 (w6.alloc (.cells #[.int .i64 a1.n, .string a1.s, .int .i64 a1.e] 38)) := (Below.refl _ _).alloc (Nat.le_refl _) _
        have HA7 := Lib.hid (h6.on hal)
        have HO7 := Lib.hid ((hal.block _ (blk_lt hk6.1)).trans hk6.1)
        have HG7 := Lib.hid (heap_alloc_new w6 (.cells #[.int .i64 a1.n, .string a1.s, .int .i64 a1.e] 38))
        clear hal h6 hr6 hk6 HDs HA5 HO5 HU5 o0 o1 o2 o3 o4 o5 o6 o7 o8 o9
        obtain ⟨n1, t1, e1⟩ := a1
        simp only at HKP HDN HI0 HA7 HG7 ⊢
        go_upto_region 10 with fail
        generalize w6.alloc (.cells #[.int .i64 n1, .string t1, .int .i64 e1] 38) = w7 at *
        generalize w6.heap.size = gx at *
        have p0 := cell_of_row w7 go 0 _ _ _ HO7.out
        have p3 := cell_of_row w7 go 3 _ _ _ HO7.out
        have y0 := cell_of_row w7 gx 0 _ _ _ HG7.out
        have y1 := cell_of_row w7 gx 1 _ _ _ HG7.out
        have HE1 := Lib.hid (show (O ++ t1) ++ s1.S = I ++ J by rw [cat_assoc, HKP.out, ← cat_assoc, HE.out])
        have hts : t1.size ≤ 4000 := by
          have h := congrArg ByteArray.size HKP.out
          rw [cat_size, cat_size] at h
          have h1 := HIN.out
          have h2 := HSS.out
          have h3 := HSZ.out
          have h4 := HSO.out
          omega
        have hos : O.size ≤ 2000 := by have h3 := HSZ.out; have h4 := HSO.out; omega
        have his : I.size ≤ 2000 := HSZ.out
        have hjs : J.size ≤ 2000 := Nat.le_trans HIN.out HSS.out
        have HL1 := Lib.hid (show (I ++ J).size ≤ total (os.take (k + 1)) by rw [cat_size]; have h1 := HL.out; have h2 := HTK.out; have h3 := HIN.out; omega)
        obtain ⟨O2, hO2⟩ : ∃ O2, O ++ t1 = O2 := ⟨_, rfl⟩
        have r2 := fun W => cat_runs hO2 (by omega) (by omega) W
        rw [hO2] at HE1
        by_cases hk0 : kd = 0
        · subst hk0
          have hn := HDN.out rfl
          have hJ0 := HI0.out rfl
          obtain ⟨I2, hI2⟩ : ∃ I2, I ++ J = I2 := ⟨_, rfl⟩
          rw [hI2] at HE1 HL1
          rw [hJ0] at hI2 hjs
          have r1 := fun W => cat_runs hI2 (by omega) (by omega) W
          have d0 : decide (n1 < 0) = false := decide_eq_false (by omega)
          have d1 : decide ((b0.size : Int) < n1) = false := decide_eq_false (by omega)
          have hn0 := hn.1
          have hn1 := hn.2
          clear hn hJ0 hI2 hO2 HI0 HI1 HI2 HDN hjs hts hos his hX
          go_wp2_with fail
          go_roundw
          case rel => exact ⟨k + 1, s1, U6, I2, O2, by omega, by go_num, rfl, rfl, HA7, HE1, HL1⟩
          case measure => simp [intOf]; omega
        · have dk : (kd == 0) = false := by simpa using hk0
          by_cases hk1 : kd = 1
          · subst hk1
            by_cases hX0 : X = 0
            · have hJ1 := HI1.out rfl hX0
              obtain ⟨I2, hI2⟩ : ∃ I2, I ++ J = I2 := ⟨_, rfl⟩
              rw [hI2] at HE1 HL1
              rw [hJ1] at hI2 hjs
              have r1 := fun W => cat_runs hI2 (by omega) (by omega) W
              clear hJ1 hI2 hO2 HI0 HI1 HI2 HDN hjs hts hos his hX dk hk0
              subst hX0
              go_wp2_with fail
              go_roundw
              case rel => exact ⟨k + 1, s1, U6, I2, O2, by omega, by go_num, rfl, rfl, HA7, HE1, HL1⟩
              case measure => simp [intOf]; omega
            · have hJ1 := HI2.out hk0 (Or.inr hX0)
              rw [hJ1, cat_none] at HE1 HL1
              have dX : (X == 0) = false := by simpa using hX0
              clear hJ1 hO2 HI0 HI1 HI2 HDN hjs hts hos his hX dk hk0 hX0
              go_wp2_with fail
              go_roundw
              case rel => exact ⟨k + 1, s1, U6, I, O2, by omega, by go_num, rfl, rfl, HA7, HE1, HL1⟩
              case measure => simp [intOf]; omega
          · have dk1 : (kd == 1) = false := by simpa using hk1
            have hJ1 := HI2.out hk0 (Or.inl hk1)
            rw [hJ1, cat_none] at HE1 HL1
            clear hJ1 hO2 HI0 HI1 HI2 HDN hjs hts hos his hX hk0 hk1
            go_wp2_with fail
            go_roundw
            case rel => exact ⟨k + 1, s1, U6, I, O2, by omega, by go_num, rfl, rfl, HA7, HE1, HL1⟩
            case measure => simp [intOf]; omega
      · obtain rfl : k = m := by omega
        have HSZ := Lib.hid (show I.size ≤ 2000 by have h1 := HL.out; have h2 := total_take_le os k; have h3 := HT.out; omega)
        clear hlt hk
        go_wp2_with fail
        refine (alive_any _).mono ?_
        rintro e w5 ⟨rfl, hb5⟩
        have HA5 := Lib.hid (HA.out.on hb5)
        clear hb5 HA
        obtain ⟨v, hv, hdr⟩ := drain_i HA5.out.1
        have HDR := Lib.hid hdr
        clear hdr
        go_wp2_with fail
        refine HDR.out.mono ?_
        rintro e w6 ⟨q, d6, rfl, hi, hTT, hd1, hd2, hs⟩
        obtain ⟨U6, h6, _⟩ := HA5.out.stepq hs
        have HB6 := Lib.hid h6.2.2
        have cv : (convert 40 9 (.slice q s.S.size d6)).run Try.prog w6 = .ok (.string s.S) w6 := gc.got_text (d := d6) hi rfl
        have hOs : O.size ≤ 2000 := by have := HSZ.out; have := HSO.out; omega
        have hSs : s.S.size ≤ 2000 := by have := HSZ.out; have := HSO.out; omega
        have r1 := fun W => cat_runs HE.out (by omega) (by omega) W
        clear hi hTT hs h6 HA5 hv
        generalize s.S = S at *
        go_wp2_with fail
        go_ret
        exact ⟨ret_bool (by simp), HB6.out⟩
end stageKeeps
end Go.Proofs.Ytlbihcpglcdmmaa

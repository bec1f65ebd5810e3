/-
  The walk of chicanelaw10.StageEnds: it returns true, whatever calls. Conditions: as each states.
-/
import Derived.Test.YtlbihcpglcdmmaaL3
import Derived.BigQuiet
namespace Go.Proofs.Ytlbihcpglcdmmaa.stageEnds
open Go.RowKit

theorem rep_drew {w : World} {U : Own} {g : Nat} {s : St} {M : Nat} (h : Rep w U g s M) (n : Nat) : Rep (w.drewN n) U g s M := rep_on h (Nat.le_refl _) fun _ _ => rfl

theorem quiet_left {P : Program} {f : FuncId} {args : Array Value} {w : World} {n : Nat} {v : Value} (h : Calls P f args (w.drewN n) fun e w' => e = .returned v ∧ w.drewN n = w') :
    Calls P f args (w.drewN n) fun e w'' => e = .returned v ∧ ∃ m, w'' = w.drewN m := h.mono fun _ _ ⟨he, hm⟩ => ⟨he, n, hm.symm⟩
set_option maxRecDepth 100000 in
set_option maxHeartbeats 8000000 in
theorem no_new (t : Tox) (ht : t.s.size ≤ maxLen) (seed room now : Int) (h : newE t room ≠ 0) (p : Option Addr) (m d : Nat) (w : World) :
    Calls Try.prog 7 #[seatV t seed room now, .slice p m d] w fun e w' => e = .returned (.bool true) ∧ Below w.heap.size w w' := by
  obtain ⟨ts, tk, tu, to, ta, tb⟩ := t
  have HN := Lib.hid (fun W => new_no (seed := seed) (now := now) ht h W)
  have hE : (newE ⟨ts, tk, tu, to, ta, tb⟩ room != 0) = true := by simpa using h
  generalize newE ⟨ts, tk, tu, to, ta, tb⟩ room = E at *
  unfold Tox.v at HN
  unfold seatV
  simp only at HN ⊢
  have HB := Lib.hid (show Below w.heap.size w (w.alloc (.cells #[.string ts, .int .i64 tk, .bool tu, .int .i64 to, .int .i64 ta, .int .i64 tb, .int .u64 seed, .int .i64 room, .int .i64 now] 26)) from (Below.refl _ _).alloc (Nat.le_refl _) _)
  clear h ht
  go_enter Try.func7, Try.ntmps7
  go_wp2_with fail
  generalize w.alloc (.cells #[.string ts, .int .i64 tk, .bool tu, .int .i64 to, .int .i64 ta, .int .i64 tb, .int .u64 seed, .int .i64 room, .int .i64 now] 26) = w1 at *
  refine (HN.out _).mono ?_
  rintro e w2 ⟨rfl, hb⟩
  have HB2 := Lib.hid (HB.out.trans (hb.mono HB.out.size))
  clear hb
  go_wp2_with fail
  refine (alive_any _).mono ?_
  rintro e w3 ⟨rfl, hb⟩
  have HB3 := Lib.hid (HB2.out.trans (hb.mono HB2.out.size))
  clear hb
  go_wp2_with fail
  go_ret
  exact ⟨rfl, HB3.out⟩
set_option maxRecDepth 100000 in
set_option maxHeartbeats 16000000 in
theorem walk (t : Tox) (ht : t.s.size ≤ maxLen) (seed room now : Int) (p : Option Addr) (m d : Nat) (os : List Op) (w : World) (hx : os.length = m) (hmd : m ≤ d) (hd : d ≤ 9223372036854775807) (hz : ∀ o ∈ os, o.s.size ≤ 140737488351232 ∧ o.t.s.size ≤ maxLen) (hj : OpsIn w p m os) :
    Calls Try.prog 7 #[seatV t seed room now, .slice p m d] w fun e w' => e = .returned (.bool true) ∧ Below w.heap.size w w' := by
  by_cases hE : newE t room ≠ 0
  · exact no_new t ht seed room now hE p m d w
  have hE0 : newE t room = 0 := by omega
  have HX := Lib.hid hx
  have HJ := Lib.hid hj
  have HZ := Lib.hid hz
  clear hE
  have HEN := Lib.hid (fun hk => end_new (t := t) (seed := seed) (room := room) (now := now) hE0 hk)
  obtain ⟨s0, hs0⟩ : ∃ s0, newS t seed room now = s0 := ⟨_, rfl⟩
  have HN := Lib.hid (fun W => new_ok (seed := seed) (now := now) ht hE0 W)
  rw [hs0] at HN HEN
  obtain ⟨ts, tk, tu, to, ta, tb⟩ := t
  unfold Tox.v at HN
  unfold seatV
  simp only at HN HEN ⊢
  have HB := Lib.hid (show Below w.heap.size w (w.alloc (.cells #[.string ts, .int .i64 tk, .bool tu, .int .i64 to, .int .i64 ta, .int .i64 tb, .int .u64 seed, .int .i64 room, .int .i64 now] 26)) from (Below.refl _ _).alloc (Nat.le_refl _) _)
  have HS1 := Lib.hid (heap_alloc_new w (.cells #[.string ts, .int .i64 tk, .bool tu, .int .i64 to, .int .i64 ta, .int .i64 tb, .int .u64 seed, .int .i64 room, .int .i64 now] 26))
  clear hx hz hj hs0 ht hE0
  go_enter Try.func7, Try.ntmps7
  go_wp2_with fail
  generalize w.alloc (.cells #[.string ts, .int .i64 tk, .bool tu, .int .i64 to, .int .i64 ta, .int .i64 tb, .int .u64 seed, .int .i64 room, .int .i64 now] 26) = w1 at *
  refine (HN.out _).mono ?_
  rintro e w2 ⟨g, U, rfl, hr, hu, hb⟩
  have HA2 := Lib.hid (show Hd w w2 U g s0 0 from ⟨hr, fun i hi => Nat.le_trans HB.out.size (hu i hi), HB.out.trans (hb.mono HB.out.size)⟩)
  have HS2 := Lib.hid ((hb.block _ (blk_lt HS1.out)).trans HS1.out)
  have HSU := Lib.hid (show ¬ U w.heap.size from fun hx => by have h1 := hu _ hx; have h2 := blk_lt HS1.out; omega)
  clear hr hu hb HB HN HS1
  go_wp2_with fail
  refine (few_any p m d os _ HX.out hmd hd (fun o ho => (HZ.out o ho).1) (ops_on HJ.out HA2.out.2.2)).mono ?_
  rintro e w3 ⟨b, rfl, hf, hb⟩
  have HA3 := Lib.hid (HA2.out.on hb)
  have HS3 := Lib.hid ((hb.block _ (blk_lt HS2.out)).trans HS2.out)
  have HF := Lib.hid hf
  clear hb hf HA2 hmd hd HS2
  cases b with
  | false =>
    clear HF
    go_wp2_with fail
    refine (alive_any _).mono ?_
    rintro e w5 ⟨rfl, hb5⟩
    have HB5 := Lib.hid (HA3.out.on hb5).2.2
    clear hb5
    go_wp2_with fail
    go_ret
    exact ⟨rfl, HB5.out⟩
  | true =>
    obtain ⟨hm, htt⟩ := HF.out rfl
    have HT := Lib.hid htt
    clear HF htt
    have q0 := cell_of_row w3 w.heap.size 0 _ _ _ HS3.out
    have q1 := cell_of_row w3 w.heap.size 1 _ _ _ HS3.out
    have q4 := cell_of_row w3 w.heap.size 4 _ _ _ HS3.out
    have q8 := cell_of_row w3 w.heap.size 8 _ _ _ HS3.out
    by_cases hk4 : tk < 4
    · have d4 : decide (tk < 4) = true := decide_eq_true hk4
      go_wp2_with fail
      refine (alive_any _).mono ?_
      rintro e w5 ⟨rfl, hb5⟩
      have HB5 := Lib.hid (HA3.out.on hb5).2.2
      clear hb5
      go_wp2_with fail
      go_ret
      exact ⟨rfl, HB5.out⟩
    have d4 : decide (tk < 4) = false := decide_eq_false hk4
    by_cases hk6 : 6 < tk
    · have d6 : decide (6 < tk) = true := decide_eq_true hk6
      go_wp2_with fail
      refine (alive_any _).mono ?_
      rintro e w5 ⟨rfl, hb5⟩
      have HB5 := Lib.hid (HA3.out.on hb5).2.2
      clear hb5
      go_wp2_with fail
      go_ret
      exact ⟨rfl, HB5.out⟩
    have d6 : decide (6 < tk) = false := decide_eq_false hk6
    have hkk : tk = 4 ∨ tk = 5 ∨ tk = 6 := by omega
    have HE0 := Lib.hid (HEN.out hkk).1
    have HKK := Lib.hid hkk
    clear hk4 hk6 HEN hkk
    go_wp2_with fail
    refine (gb.rnear_any _ _).mono ?_
    rintro e w4 ⟨rfl, rfl⟩
    go_wp2_with fail
    refine (add_any _ _ _).mono ?_
    rintro e w4 ⟨rfl, rfl⟩
    have HEQ := Lib.hid (show addT (gb.near now) ta = addT now ta by unfold addT; rw [gb.near_of (gb.near now) (gb.near_range now).1 (gb.near_range now).2])
    obtain ⟨fin, hfin⟩ : ∃ fin, addT now ta = fin := ⟨_, rfl⟩
    rw [hfin] at HEQ
    rw [hfin]
    generalize gb.near now = bg at *
    clear hfin q0 q1 q4 q8 d4 d6
    go_wp2_with fail
    go_loopw [7, 60] (fun vc i wr => ∃ (k : Nat) (c : Int) (s : St) (U' : Own), k ≤ m ∧ i = .int .i64 k ∧ vc = .int .i64 c ∧ Hid (Hd w wr U' g s (total (os.take k))) ∧ Hid (EndI ⟨ts, tk, tu, to, ta, tb⟩ bg s c) ∧ Hid (wr.heap[w.heap.size]? = some (.cells #[.string ts, .int .i64 tk, .bool tu, .int .i64 to, .int .i64 ta, .int .i64 tb, .int .u64 seed, .int .i64 room, .int .i64 now] 26 (0, 0)) ∧ ¬ U' w.heap.size)) (fun _ i _ => m - (intOf i).toNat)
    case atStart => exact ⟨0, bg, s0, U, by omega, rfl, rfl, HA3, HE0, Lib.hid ⟨HS3.out, HSU.out⟩⟩
    case round =>
      clear HA3 HE0 HS3 HSU
      obtain ⟨k, c, s, U1, hk, rfl, rfl, HA, HE, HS⟩ := hrel
      by_cases hlt : k < m
      · obtain ⟨b, o, rfl, hcell⟩ := ops_on HJ.out HA.out.2.2 (by omega)
        obtain ⟨c0, c1, c2, c3, c4, c5, c6, c7, c8, c9⟩ := hcell k hlt
        have hzk := HZ.out _ (at_of os k (by rw [HX.out]; exact hlt))
        have HTK := Lib.hid (total_step os k m HX.out hlt _ rfl)
        have HTL := Lib.hid (Nat.le_trans (total_take_le os (k + 1)) HT.out)
        generalize os.getD k noOp = op at *
        have HZK := Lib.hid hzk
        have HDO := Lib.hid (fun ho => end_do HE.out HKK.out op ho)
        obtain ⟨kd, T, N, b0, tx⟩ := op
        obtain ⟨us, uk, uu, uo, ua, ub⟩ := tx
        simp only at c0 c1 c2 c3 c4 c5 c6 c7 c8 c9 HTK HZK HDO
        rw [← Nat.add_assoc] at c1 c2 c3 c4 c5 c6 c7 c8 c9
        clear hcell hzk
        have hal : Below wr.heap.size wr (wr.alloc (.cells #[.int .i64 kd, .int .i64 T, .int .i64 N, .string b0, .string us, .int .i64 uk, .bool uu, .int .i64 uo, .int .i64 ua, .int .i64 ub] 35)) := (Below.refl _ _).alloc (Nat.le_refl _) _
        have HA4 := Lib.hid (HA.out.on hal)
        have HO4 := Lib.hid (heap_alloc_new wr (.cells #[.int .i64 kd, .int .i64 T, .int .i64 N, .string b0, .string us, .int .i64 uk, .bool uu, .int .i64 uo, .int .i64 ua, .int .i64 ub] 35))
        have HU4 := Lib.hid (HA.out.new (Nat.le_refl _))
        have HS4 := Lib.hid (show _ ∧ ¬ U1 w.heap.size from ⟨(hal.block _ (blk_lt HS.out.1)).trans HS.out.1, HS.out.2⟩)
        clear hal HA HS
        go_upto_region 9 with fail
        generalize wr.alloc (.cells #[.int .i64 kd, .int .i64 T, .int .i64 N, .string b0, .string us, .int .i64 uk, .bool uu, .int .i64 uo, .int .i64 ua, .int .i64 ub] 35) = w4 at *
        generalize wr.heap.size = go at *
        clear c0 c1 c2 c3 c4 c5 c6 c7 c8 c9
        have o0 := cell_of_row w4 go 0 _ _ _ HO4.out
        have o1 := cell_of_row w4 go 1 _ _ _ HO4.out
        have o2 := cell_of_row w4 go 2 _ _ _ HO4.out
        have o3 := cell_of_row w4 go 3 _ _ _ HO4.out
        have o4 := cell_of_row w4 go 4 _ _ _ HO4.out
        have o5 := cell_of_row w4 go 5 _ _ _ HO4.out
        have o6 := cell_of_row w4 go 6 _ _ _ HO4.out
        have o7 := cell_of_row w4 go 7 _ _ _ HO4.out
        have o8 := cell_of_row w4 go 8 _ _ _ HO4.out
        have o9 := cell_of_row w4 go 9 _ _ _ HO4.out
        by_cases hkd : kd = 0 ∨ kd = 1 ∨ kd = 2 ∨ kd = 4
        · have e0 : decide (kd < 0) = false := decide_eq_false (by omega)
          have e4 : decide (4 < kd) = false := decide_eq_false (by omega)
          have e3 : (kd == 3) = false := by simp; omega
          have hdo := HDO.out hkd
          obtain ⟨s1, hs1⟩ : ∃ s1, (doS s ⟨kd, T, N, b0, ⟨us, uk, uu, uo, ua, ub⟩⟩).1 = s1 := ⟨_, rfl⟩
          obtain ⟨a1, ha1⟩ : ∃ a1, (doS s ⟨kd, T, N, b0, ⟨us, uk, uu, uo, ua, ub⟩⟩).2 = a1 := ⟨_, rfl⟩
          have HDs := Lib.hid (does_any (M' := total (os.take (k + 1))) HA4.out ⟨kd, T, N, b0, ⟨us, uk, uu, uo, ua, ub⟩⟩ HZK.out.2 (by rw [HTK.out]; exact Nat.le_refl _) (by have := HTL.out; omega))
          rw [hs1, ha1] at HDs hdo
          unfold opV at HDs
          simp only at HDs hdo
          have HD0 := Lib.hid hdo
          clear hs1 ha1 hdo hkd
          go_wp2_with fail
          refine (gb.rnear_any _ _).mono ?_
          rintro e w5 ⟨rfl, rfl⟩
          obtain ⟨c', hc'⟩ : ∃ c', tickS c T = c' := ⟨_, rfl⟩
          have hmx : max c (gb.near T) = c' := by rw [← hc']; unfold tickS; split <;> omega
          have HCC := Lib.hid (show tickS c' T = c' by rw [← hc', tick_tick])
          rw [hc'] at HD0
          clear hc'
          go_wp2_with fail
          refine HDs.out.mono ?_
          rintro e w6 ⟨rfl, U6, h6, hr6⟩
          have hk6 := block_kept hr6 HU4.out HO4.out
          have hj6 := block_kept hr6 HS4.out.2 HS4.out.1
          have hal : Below w6.heap.size w6 (w6.alloc (.cells #[.int .i64 a1.n, .string a1.s, .int .i64 a1.e] 38)) := (Below.refl _ _).alloc (Nat.le_refl _) _
          have HA7 := Lib.hid (h6.on hal)
          have HO7 := Lib.hid (show _ ∧ _ from ⟨(hal.block _ (blk_lt hk6.1)).trans hk6.1, hk6.2⟩)
          have HS7 := Lib.hid (show _ ∧ _ from ⟨(hal.block _ (blk_lt hj6.1)).trans hj6.1, hj6.2⟩)
          have HG7 := Lib.hid (heap_alloc_new w6 (.cells #[.int .i64 a1.n, .string a1.s, .int .i64 a1.e] 38))
          have HGU := Lib.hid (h6.new (Nat.le_refl _))
          clear hal h6 hr6 hk6 hj6 HDs HA4 HO4 HU4 HS4 o0 o1 o2 o3 o4 o5 o6 o7 o8 o9 hmx e0 e3 e4
          obtain ⟨n1, t1, e1⟩ := a1
          simp only at HD0 HA7 HG7 ⊢
          go_upto_region 12 with fail
          generalize w6.alloc (.cells #[.int .i64 n1, .string t1, .int .i64 e1] 38) = w7 at *
          generalize w6.heap.size = gx at *
          have o1 := cell_of_row w7 go 1 _ _ _ HO7.out.1
          obtain ⟨hl1, hl2, hl3, _, _⟩ := end_look HD0.out.1 HKK.out T
          rw [HCC.out] at hl1 hl2
          obtain ⟨X, hX⟩ : ∃ X, (lookS s1 T).st = X := ⟨_, rfl⟩
          rw [hX] at hl2
          have HX2 := Lib.hid hl2
          have HEI := Lib.hid hl1
          have HPS := Lib.hid hl3
          clear hl1 hl2 hl3
          go_wp2_with fail
          refine (state_i HA7.out.1 T).mono ?_
          rintro e w8 ⟨rfl, hs⟩
          rw [hX]
          obtain ⟨U8, h8, hr8⟩ := HA7.out.step hs
          have hg8 := block_kept hr8 HGU.out HG7.out
          have hj8 := block_kept hr8 HS7.out.2 HS7.out.1
          have HA8 := Lib.hid h8
          have HS8 := Lib.hid hj8
          clear hX HS7 HA7 HO7 HG7 HGU o1 hs h8 hr8
          have y1 := cell_of_row w8 gx 1 _ _ _ hg8.1
          have q1 := cell_of_row w8 w.heap.size 1 _ _ _ hj8.1
          have q4 := cell_of_row w8 w.heap.size 4 _ _ _ hj8.1
          have HD1 := Lib.hid HD0.out.2
          clear hg8 hj8 HD0
          generalize lookS s1 T = s2 at *
          rcases HKK.out with rfl | rfl | rfl
          · obtain rfl := HD1.out rfl
            have hX2 := HX2.out
            unfold endSt at hX2
            rw [if_pos rfl] at hX2
            simp only [HEQ.out] at hX2
            by_cases hf : fin ≤ c'
            · rw [if_pos hf] at hX2
              subst hX2
              have df : decide (fin ≤ c') = true := decide_eq_true hf
              go_wp2_with fail
              go_roundw
              case rel => exact ⟨k + 1, c', s2, U8, by omega, by go_num, rfl, HA8, HEI, HS8⟩
              case measure => simp [intOf]; omega
            · rw [if_neg hf] at hX2
              subst hX2
              have df : decide (fin ≤ c') = false := decide_eq_false hf
              go_wp2_with fail
              go_roundw
              case rel => exact ⟨k + 1, c', s2, U8, by omega, by go_num, rfl, HA8, HEI, HS8⟩
              case measure => simp [intOf]; omega
          · have hX2 := HX2.out
            unfold endSt at hX2
            rw [if_neg (by simp), if_pos rfl] at hX2
            simp only [HEQ.out] at hX2
            by_cases hf : fin ≤ c'
            · rw [if_pos hf] at hX2
              subst hX2
              have df : decide (fin ≤ c') = true := decide_eq_true hf
              go_wp2_with fail
              go_roundw
              case rel => exact ⟨k + 1, c', s2, U8, by omega, by go_num, rfl, HA8, HEI, HS8⟩
              case measure => simp [intOf]; omega
            · rw [if_neg hf] at hX2
              subst hX2
              have df : decide (fin ≤ c') = false := decide_eq_false hf
              go_wp2_with fail
              go_roundw
              case rel => exact ⟨k + 1, c', s2, U8, by omega, by go_num, rfl, HA8, HEI, HS8⟩
              case measure => simp [intOf]; omega
          · have hX2 := HX2.out
            unfold endSt at hX2
            rw [if_neg (by simp), if_neg (by simp)] at hX2
            have hpa := (HEI.out.k6 rfl).2
            rw [← HPS.out] at hX2
            have HPA := Lib.hid (fun n => passed_i (rep_drew HA8.out.1 n))
            generalize s2.passed = pa at *
            simp only at hX2 hpa
            have dp : decide (ta < pa) = false := decide_eq_false (by omega)
            by_cases hf : ta ≤ pa
            · rw [if_pos hf] at hX2
              subst hX2
              have df : (pa == ta) = true := by simp; omega
              go_wp2_with fail
              go_quiet ((go_at_call 21; exact quiet_left (HPA.out _)))
              go_wp2_with fail
              exact ⟨⟨k + 1, c', s2, U8, by omega, by go_num, rfl, Lib.hid (HA8.out.on ⟨rfl, rfl, rfl, Nat.le_refl _, fun _ _ => rfl⟩), HEI, HS8⟩, by simp [intOf]; omega⟩
            · rw [if_neg hf] at hX2
              subst hX2
              have df : (pa == ta) = false := by simp; omega
              go_wp2_with fail
              go_quiet ((go_at_call 21; exact quiet_left (HPA.out _)))
              go_wp2_with fail
              exact ⟨⟨k + 1, c', s2, U8, by omega, by go_num, rfl, Lib.hid (HA8.out.on ⟨rfl, rfl, rfl, Nat.le_refl _, fun _ _ => rfl⟩), HEI, HS8⟩, by simp [intOf]; omega⟩
        · have HA5 := Lib.hid (HA4.out.mono (show total (os.take k) ≤ total (os.take (k + 1)) by rw [HTK.out]; omega) (by have := HTL.out; omega))
          have e34 : kd < 0 ∨ 4 < kd ∨ kd = 3 := by omega
          clear HDO HZK hkd
          by_cases e0 : kd < 0
          · have d0 : decide (kd < 0) = true := decide_eq_true e0
            go_wp2_with fail
            go_roundw
            case rel => exact ⟨k + 1, c, s, U1, by omega, by go_num, rfl, HA5, HE, HS4⟩
            case measure => simp [intOf]; omega
          have d0 : decide (kd < 0) = false := decide_eq_false e0
          by_cases e4 : 4 < kd
          · have d4 : decide (4 < kd) = true := decide_eq_true e4
            go_wp2_with fail
            go_roundw
            case rel => exact ⟨k + 1, c, s, U1, by omega, by go_num, rfl, HA5, HE, HS4⟩
            case measure => simp [intOf]; omega
          have d4 : decide (4 < kd) = false := decide_eq_false e4
          have d3 : (kd == 3) = true := by simp; omega
          go_wp2_with fail
          go_roundw
          case rel => exact ⟨k + 1, c, s, U1, by omega, by go_num, rfl, HA5, HE, HS4⟩
          case measure => simp [intOf]; omega
      · obtain rfl : k = m := by omega
        go_wp2_with fail
        refine (alive_any _).mono ?_
        rintro e w5 ⟨rfl, hb5⟩
        have HB5 := Lib.hid (HA.out.on hb5).2.2
        clear hb5
        go_wp2_with fail
        go_ret
        exact ⟨rfl, HB5.out⟩
end Go.Proofs.Ytlbihcpglcdmmaa.stageEnds

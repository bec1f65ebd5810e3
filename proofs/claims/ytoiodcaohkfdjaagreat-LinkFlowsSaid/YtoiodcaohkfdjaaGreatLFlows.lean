/-
  The walk of chicanelaw12.LinkFlows: it returns true, whatever toxics and bytes. Conditions: as each states.
-/
import Derived.Test.YtoiodcaohkfdjaaGreatMP51
namespace Go.Proofs.YtoiodcaohkfdjaaGreat
open Go.RowKit
namespace linkFlows
theorem step_keeps {k : Lk} {i u : ByteArray} (h : Lok k) (hb : k.Bal) (hk : k.Kept i u) (ho : k.Over) (now n : Int) : (k.stepK now n).Kept i (u ++ k.stepT now n) ∧ (k.stepK now n).Over := by
  have e1 : k.doK ⟨3, now, n, none0, noTox⟩ = k.stepK now n := rfl
  have e2 : (k.ansK ⟨3, now, n, none0, noTox⟩).s = k.stepT now n := rfl
  have h1 := Lk.keeps_do h hb hk ⟨3, now, n, none0, noTox⟩
  have h2 := (Lk.over_do h hb ho ⟨3, now, n, none0, noTox⟩).1
  rw [e1] at h1 h2
  rw [e2, if_neg (show ¬ (3 : Int) = 0 by decide), show i ++ none0 = i from cat_none i] at h1
  exact ⟨h1, h2⟩
/-- What is left, or all is told. -/
def Left (T : Nat → Tox) (N n : Nat) (v : Int) (j : Nat) (c : Ch) (x : Int) : Prop := (x = 0 ∧ ∃ R, FK T N n ((j : Int) - 1) c R ∧ R ≤ v - j ∧ 0 ≤ R) ∨ (x = 1 ∧ ∃ now, EB T N n now c ∧ c.state = 1)
theorem left_step {T : Nat → Tox} {N n j : Nat} {v : Int} {K : Lk} (h : Left T N n v j K.c 0) (hv : EV T N n) (hj : j ≤ 90000) (hf : K.fin = 0) : Left T N n v (j + 1) (K.stepK j 1).c (K.stepE j 1) ∧ (K.stepK j 1).fin = K.stepE j 1 := by
  have eE : K.stepE j 1 = (K.stepC j 1).state := if_neg (by omega)
  have eF : (K.stepK j 1).fin = K.stepE j 1 := by
    show (if K.fin ≠ 0 then K.fin else (K.stepC j 1).state) = _
    rw [if_neg (by omega), eE]
  refine ⟨?_, eF⟩
  rw [eE]
  rcases h with ⟨_, R, h1, h2, h3⟩ | ⟨h1, _⟩
  · have h4 := fk_tick (k := K) h1 hv (by omega) (by omega)
    rw [show (j : Int) - 1 + 1 = (j : Int) by omega] at h4
    obtain ⟨h4, h5⟩ := h4
    rcases h5 with h5 | ⟨h5, h6⟩
    · rw [h5]
      exact Or.inr ⟨rfl, j, h4, h5⟩
    · have h7 := h6
      obtain ⟨p, r, hx, _⟩ := h7
      rw [hx.op]
      exact Or.inl ⟨rfl, R - 1, by rw [show (((j + 1 : Nat) : Int) - 1) = (j : Int) by omega]; exact h6, by omega, by omega⟩
  · omega
/-- What is sent, and finished. -/
theorem start {k : Lk} {l : List Tox} {up : Bool} {room : Int} {s : ByteArray} (hmk : MkL k l up room 0) (hl : ∀ t ∈ l, KV t) (hr : 30 ≤ room) (hs : s.size ≤ 30) :
    (k.c.doA (Lk.oPut 0 s)).n = s.size ∧ ∃ T N, EV T N s.size ∧ Left T N s.size (((s.size : Int) + 2) * (costL l + 1)) 0 ((k.sendK 0 s).finK 0).c 0 ∧ ((k.sendK 0 s).finK 0).Kept s ⟨#[]⟩ ∧ ((k.sendK 0 s).finK 0).Over ∧ ((k.sendK 0 s).finK 0).fin = 0 := by
  obtain ⟨ts, hm⟩ := hmk.made
  have hu : ∀ t ∈ upL up l, KV t := fun t ht => hl t (List.mem_filter.1 ht).1
  obtain ⟨h1, h2⟩ := fk_start hm hu hr hs
  have h3 := tot_most (s := s) hm hl
  have hv := ev_new hm hu hs
  refine ⟨h1, toxF ts, ts.length + 2, hv, Or.inl ⟨rfl, totK (toxF ts) (ts.length + 2) s.size 0 0, h2, by show _ ≤ _ - ((0 : Nat) : Int); omega, (totK_pos hv (Int.le_refl _)).1⟩, ?_⟩
  have ho := hmk.over
  have e1 : k.doK ⟨0, 0, 0, s, noTox⟩ = k.sendK 0 s := rfl
  have e2 : (k.ansK ⟨0, 0, 0, s, noTox⟩).n = s.size := h1
  have a1 := Lk.keeps_do hmk.ok hmk.bal hmk.kept ⟨0, 0, 0, s, noTox⟩
  have a2 := (Lk.over_do hmk.ok hmk.bal ho.1 ⟨0, 0, 0, s, noTox⟩).1
  obtain ⟨b1, b2, _⟩ := Lk.send_ok hmk.ok hmk.bal 0 s
  rw [e1] at a1 a2
  rw [if_pos (show (0 : Int) = 0 from rfl), e2] at a1
  have e3 : (k.sendK 0 s).doK ⟨1, 0, 0, none0, noTox⟩ = (k.sendK 0 s).finK 0 := rfl
  have e4 : (⟨#[]⟩ : ByteArray) ++ s.extract 0 ((s.size : Int)).toNat = s := by
    rw [none_cat, Int.toNat_natCast, ByteArray.extract_zero_size]
  have e5 : (⟨#[]⟩ : ByteArray) ++ (k.ansK ⟨0, 0, 0, s, noTox⟩).s = ⟨#[]⟩ := cat_none _
  rw [show (⟨0, 0, 0, s, noTox⟩ : LOp).s = s from rfl, e4, e5] at a1
  have c1 := Lk.keeps_do b1 b2 a1 ⟨1, 0, 0, none0, noTox⟩
  have c2 := (Lk.over_do b1 b2 a2 ⟨1, 0, 0, none0, noTox⟩).1
  rw [e3] at c1 c2
  rw [if_neg (show ¬ (1 : Int) = 0 by decide), show s ++ none0 = s from cat_none s, show (⟨#[]⟩ : ByteArray) ++ ((k.sendK 0 s).ansK ⟨1, 0, 0, none0, noTox⟩).s = ⟨#[]⟩ from cat_none _] at c1
  exact ⟨c1, c2, ho.2⟩
set_option maxRecDepth 100000 in
set_option maxHeartbeats 16000000 in
theorem walk (pl : Option Addr) (nl dl : Nat) (l : List Tox) (up : Bool) (seed room : Int) (s : ByteArray) (w : World) (hl : l.length = nl) (hnd : nl ≤ dl) (hzl : ∀ t ∈ l, t.s.size ≤ 140737488351232) (hil : ToxIn w pl nl l) :
    Calls Tryz.prog 6 #[.agg #[.slice pl nl dl, .bool up, .int .u64 seed, .int .i64 room], .string s] w fun e w' => e = .returned (.bool true) ∧ Below w.heap.size w w' := by
  have hal : Below w.heap.size w (w.alloc (.cells #[.slice pl nl dl, .bool up, .int .u64 seed, .int .i64 room] 25)) := (Below.refl _ _).alloc (Nat.le_refl _) _
  have HAL := Lib.hid hal
  have HNW := Lib.hid (heap_alloc_new w (.cells #[.slice pl nl dl, .bool up, .int .u64 seed, .int .i64 room] 25))
  have HIL := Lib.hid (And.intro hl (And.intro hzl hil))
  clear hal hl hzl hil
  go_enter Tryz.func6, Tryz.ntmps6
  go_wp2_with fail
  refine (lfew_any pl nl dl up seed room none 0 0 [] _ rfl (Nat.le_refl _) (by decide) (fun o ho => by cases ho) (fun h => absurd h (Nat.lt_irrefl _))).mono ?_
  rintro e w3 ⟨b, rfl, hf, hb⟩
  have HB3 := Lib.hid (HAL.out.trans (hb.mono HAL.out.size))
  have HNW := Lib.hid ((hb.block _ (gb.blk_lt HNW.out)).trans HNW.out)
  have HF := Lib.hid hf
  clear hb hf
  cases b with
  | false =>
    clear HF
    go_wp2_with fail
    refine (lalive _).mono ?_
    rintro e wE ⟨rfl, hbE⟩
    have HBE := Lib.hid (HB3.out.trans (hbE.mono HB3.out.size))
    clear hbE
    go_wp2_with fail
    go_ret
    exact ⟨rfl, HBE.out⟩
  | true =>
    obtain ⟨hnl, _, _⟩ := HF.out rfl
    clear HF
    by_cases h30 : 30 < s.size
    · have d1 : decide ((30 : Int) < (s.size : Int)) = true := decide_eq_true (by omega)
      go_wp2_with fail
      refine (lalive _).mono ?_
      rintro e wE ⟨rfl, hbE⟩
      have HBE := Lib.hid (HB3.out.trans (hbE.mono HB3.out.size))
      clear hbE
      go_wp2_with fail
      go_ret
      exact ⟨rfl, HBE.out⟩
    have d1 : decide ((30 : Int) < (s.size : Int)) = false := decide_eq_false (by omega)
    have hs0 := cell_of_row w3 w.heap.size 0 _ _ _ HNW.out
    have hs3 := cell_of_row w3 w.heap.size 3 _ _ _ HNW.out
    by_cases hr : room < 30
    · have d2 : decide (room < 30) = true := decide_eq_true hr
      go_wp2_with fail
      refine (lalive _).mono ?_
      rintro e wE ⟨rfl, hbE⟩
      have HBE := Lib.hid (HB3.out.trans (hbE.mono HB3.out.size))
      clear hbE
      go_wp2_with fail
      go_ret
      exact ⟨rfl, HBE.out⟩
    have d2 : decide (room < 30) = false := decide_eq_false hr
    go_wp2_with fail
    clear hs0 hs3
    go_loopw [6, 33] (fun _ i wr => ∃ (k : Nat), k ≤ nl ∧ i = .int .i64 k ∧ Hid (∀ t ∈ l.take k, t.a ≤ 40 ∧ t.b ≤ 40) ∧ Hid (Below w3.heap.size w3 wr)) (fun _ i _ => nl - (intOf i).toNat)
    case atStart => exact ⟨0, by omega, rfl, Lib.hid (fun t ht => by cases ht), Lib.hid (Below.refl _ _)⟩
    case round =>
      obtain ⟨k, hk, rfl, HG, HB⟩ := hrel
      have HBW := Lib.hid (HB3.out.trans (HB.out.mono HB3.out.size))
      by_cases hlt : k < nl
      · obtain ⟨bb, oo, rfl, hcell⟩ := toxs_on HIL.out.2.2 HBW.out (by omega)
        obtain ⟨c0, c1, c2, c3, c4, c5⟩ := hcell k hlt
        have hkl : k < l.length := by rw [HIL.out.1]; exact hlt
        have HTN := Lib.hid (take_next hkl)
        generalize l.getD k noTox = t at *
        rw [← Nat.add_assoc] at c1 c2 c3 c4 c5
        have hal : Below wr.heap.size wr (wr.alloc (.cells #[.string t.s, .int .i64 t.k, .bool t.up, .int .i64 t.o, .int .i64 t.a, .int .i64 t.b] 43)) := (Below.refl _ _).alloc (Nat.le_refl _) _
        have hnew := heap_alloc_new wr (.cells #[.string t.s, .int .i64 t.k, .bool t.up, .int .i64 t.o, .int .i64 t.a, .int .i64 t.b] 43)
        have HB4 := Lib.hid (HB.out.trans (hal.mono HB.out.size))
        have HBX := Lib.hid (HBW.out.trans (hal.mono HBW.out.size))
        clear hcell hal HB HBW hkl
        go_upto_region 6 with fail
        generalize wr.alloc (.cells #[.string t.s, .int .i64 t.k, .bool t.up, .int .i64 t.o, .int .i64 t.a, .int .i64 t.b] 43) = w4 at *
        generalize wr.heap.size = gt at *
        have u4 := cell_of_row w4 _ 4 _ _ _ hnew
        have u5 := cell_of_row w4 _ 5 _ _ _ hnew
        clear c0 c1 c2 c3 c4 c5 hnew
        by_cases ha : 40 < t.a
        · have d3 : decide (40 < t.a) = true := decide_eq_true ha
          go_wp2_with fail
          refine (lalive _).mono ?_
          rintro e wE ⟨rfl, hbE⟩
          have HBE := Lib.hid (HBX.out.trans (hbE.mono HBX.out.size))
          clear hbE
          go_wp2_with fail
          go_ret
          exact ⟨rfl, HBE.out⟩
        have d3 : decide (40 < t.a) = false := decide_eq_false ha
        by_cases hb : 40 < t.b
        · have d4 : decide (40 < t.b) = true := decide_eq_true hb
          go_wp2_with fail
          refine (lalive _).mono ?_
          rintro e wE ⟨rfl, hbE⟩
          have HBE := Lib.hid (HBX.out.trans (hbE.mono HBX.out.size))
          clear hbE
          go_wp2_with fail
          go_ret
          exact ⟨rfl, HBE.out⟩
        have d4 : decide (40 < t.b) = false := decide_eq_false hb
        have HG2 := Lib.hid (show ∀ x ∈ l.take (k + 1), x.a ≤ 40 ∧ x.b ≤ 40 from fun x hx => by
          rw [HTN.out] at hx
          rcases List.mem_append.1 hx with h | h
          · exact HG.out x h
          · rw [List.mem_singleton.1 h]; omega)
        clear HG HTN ha hb
        go_wp2_with fail
        go_roundw
        case rel => exact ⟨k + 1, by omega, by go_num, HG2, HB4⟩
        case measure => simp [intOf]; omega
      · obtain rfl : k = nl := by omega
        have HSM := Lib.hid (show ∀ t ∈ l, t.a ≤ 40 ∧ t.b ≤ 40 from by
          have h := HG.out
          rw [← HIL.out.1, List.take_length] at h
          exact h)
        have HNW := Lib.hid ((HB.out.block _ (gb.blk_lt HNW.out)).trans HNW.out)
        have hs0 := cell_of_row wr w.heap.size 0 _ _ _ HNW.out
        have hs1 := cell_of_row wr w.heap.size 1 _ _ _ HNW.out
        have hs2 := cell_of_row wr w.heap.size 2 _ _ _ HNW.out
        have hs3 := cell_of_row wr w.heap.size 3 _ _ _ HNW.out
        have hilr := toxs_on HIL.out.2.2 HBW.out
        clear HG HB HB3 HAL hlt hk
        by_cases hE : newLE l room ≠ 0
        · have HN := Lib.hid (lnew_no pl k dl l up seed room 0 wr HIL.out.1 hnd HIL.out.2.1 hilr hE)
          have dE : (newLE l room != 0) = true := by simpa using hE
          have dE2 : decide (newLE l room = 0) = false := by simpa using hE
          generalize newLE l room = E at *
          clear hE hilr
          go_wp2_with fail
          refine HN.out.mono ?_
          rintro e w4 ⟨rfl, hb⟩
          have HB5 := Lib.hid (HBW.out.trans (hb.mono HBW.out.size))
          have HB0 := Lib.hid (bound_any pl k dl l s.size w4 HIL.out.1 (by omega) (by omega) (toxs_on HIL.out.2.2 HB5.out))
          have hs0 := cell_of_row w4 w.heap.size 0 _ _ _ ((hb.block _ (gb.blk_lt HNW.out)).trans HNW.out)
          clear hb HN hs1 hs2 hs3
          go_wp2_with fail
          refine HB0.out.mono ?_
          rintro e w5 ⟨v, rfl, hb, _⟩
          have HB6 := Lib.hid (HB5.out.trans (hb.mono HB5.out.size))
          clear hb HB0 hs0
          go_wp2_with fail
          refine (lalive _).mono ?_
          rintro e wE ⟨rfl, hbE⟩
          have HBE := Lib.hid (HB6.out.trans (hbE.mono HB6.out.size))
          clear hbE
          go_wp2_with fail
          go_ret
          exact ⟨rfl, HBE.out⟩
        have hE0 : newLE l room = 0 := by omega
        have HN := Lib.hid (lnew pl k dl l up seed room 0 wr HIL.out.1 hnd HIL.out.2.1 hilr hE0)
        have HCK := Lib.hid (newLE_parts hE0).2
        clear hE hE0 hilr
        go_wp2_with fail
        refine HN.out.mono ?_
        rintro e w4 ⟨g, V, rfl, h1, hmk⟩
        have HA4 := Lib.hid (h1.base HBW.out)
        have HMK := Lib.hid hmk
        have HB0 := Lib.hid (bound_any pl k dl l s.size w4 HIL.out.1 (by omega) (by omega) (toxs_on HIL.out.2.2 HA4.out.2.2))
        have hs0 := cell_of_row w4 w.heap.size 0 _ _ _ ((h1.2.2.block _ (gb.blk_lt HNW.out)).trans HNW.out)
        generalize (Lk.newK up seed room 0).addL 0 l = k0 at *
        clear h1 hmk HN hs1 hs2 hs3
        go_wp2_with fail
        refine HB0.out.mono ?_
        rintro e w5 ⟨v, rfl, hb, hvv⟩
        have HA5 := Lib.hid (HA4.out.on hb)
        have HB6 := Lib.hid HA5.out.2.2
        have HVV := Lib.hid hvv
        clear hb hvv HB0 hs0 HA4
        by_cases hv0 : v < 0
        · have dv : decide (v < 0) = true := decide_eq_true hv0
          go_wp2_with fail
          refine (lalive _).mono ?_
          rintro e wE ⟨rfl, hbE⟩
          have HBE := Lib.hid (HB6.out.trans (hbE.mono HB6.out.size))
          clear hbE
          go_wp2_with fail
          go_ret
          exact ⟨rfl, HBE.out⟩
        have dv : decide (v < 0) = false := decide_eq_false hv0
        have hsm : SmallL l := fun t ht => ⟨(check_ok HCK.out).2.1 t ht, (HSM.out t ht).1, (HSM.out t ht).2⟩
        have hgo := HVV.out hsm
        have hgo : (∀ t ∈ l, Goes t) ∧ v = ((s.size : Int) + 2) * (costL l + 1) := by
          rcases hgo with h | h
          · exact absurd h hv0
          · exact h
        have hkv := small_kv hsm hgo.1
        have hcm := cost_max hkv
        have hv1 : v ≤ 40000 := by
          rw [hgo.2]
          have hln := HIL.out.1
          have h1 := mul_less (show (s.size : Int) + 2 ≤ 32 by omega) (show 0 ≤ costL l + 1 by omega)
          omega
        obtain ⟨hsn, TT, NN, hev, hleft, hkept, hover, hfin⟩ := start HMK.out hkv (show 30 ≤ room by omega) (show s.size ≤ 30 by omega)
        rw [← hgo.2] at hleft
        have HEV := Lib.hid hev
        have HLE := Lib.hid hleft
        have HKE := Lib.hid hkept
        have HOV := Lib.hid hover
        have HFI := Lib.hid hfin
        obtain ⟨c, wB, hcv, hbi, hb1, _, _, hnc⟩ := gc.conv_text s (by omega) w5
        have HA6 := Lib.hid (HA5.out.on hb1)
        have HD := Lib.hid (lsend HA6.out.1 0 rfl hbi (by omega) (M' := 128 + s.size) (Nat.le_refl _) (by omega))
        rw [hsn] at HD
        clear hsm hgo hkv hcm hev hleft hkept hover hfin hsn hb1 HVV HSM HCK HMK HA5 HB6
        go_wp2_with fail
        refine HD.out.mono ?_
        rintro e w6 ⟨rfl, hs⟩
        obtain ⟨V6, h6, _⟩ := HA6.out.step hs
        have HA7 := Lib.hid h6
        clear hs h6 HA6 HD hcv hbi
        go_wp2_with fail
        refine (lfin HA7.out.1 0).mono ?_
        rintro e w7 ⟨rfl, hs⟩
        obtain ⟨V7, h7, _⟩ := HA7.out.step hs
        have HA8 := Lib.hid h7
        generalize (k0.sendK 0 s).finK 0 = k2 at *
        clear hs h7 HA7
        go_wp2_with fail
        go_loopw [11, 12, 13, 14, 15] (fun vo ve vn _ _ wr => ∃ (j : Nat) (K : Lk) (U1 : Own) (u : ByteArray) (x : Int), j ≤ 50000 ∧ vn = .int .i64 j ∧ vo = .string u ∧ ve = .int .i64 x ∧ Hid (LHd w wr U1 g K (128 + s.size)) ∧ Hid (K.Kept s u) ∧ Hid K.Over ∧ Hid (K.fin = x) ∧ Hid (Left TT NN s.size v j K.c x)) (fun _ _ vn _ _ _ => 100000 - (intOf vn).toNat)
        case atStart => exact ⟨0, k2, V7, ⟨#[]⟩, 0, by omega, rfl, rfl, rfl, HA8, HKE, HOV, HFI, HLE⟩
        case round =>
          clear HA8 HKE HOV HFI HLE
          obtain ⟨j, K, U1, u, x, hj, rfl, rfl, rfl, HA, HK, HO, HX, HL⟩ := hrel
          have hx01 : x = 0 ∨ x = 1 := by
            rcases HL.out with h | h
            · exact Or.inl h.1
            · exact Or.inr h.1
          rcases hx01 with rfl | rfl
          · have hjv : (j : Int) ≤ v := by
              rcases HL.out with ⟨_, R, _, h2, h3⟩ | ⟨h1, _⟩
              · omega
              · omega
            have dj : decide ((j : Int) ≤ v) = true := decide_eq_true hjv
            have hst := left_step HL.out HEV.out (by omega) HX.out
            have hkk := step_keeps HA.out.ok HA.out.bal' HK.out HO.out j 1
            have HS := Lib.hid (lstep HA.out.1 j 1)
            have HL2 := Lib.hid hst.1
            have HX2 := Lib.hid hst.2
            have HK2 := Lib.hid hkk.1
            have HO2 := Lib.hid hkk.2
            clear hst hkk HL HX HK HO
            generalize K.stepK j 1 = K2 at *
            generalize K.stepT j 1 = T1 at *
            generalize K.stepE j 1 = E1 at *
            go_wp2_with fail
            refine HS.out.mono ?_
            rintro e w9 ⟨q, d, rfl, hi, _, _, hs⟩
            have hs := hs.stp
            have cv := gc.got_text (d := d) hi rfl
            obtain ⟨U2, h9, _⟩ := HA.out.step hs
            have HA9 := Lib.hid h9
            clear hs h9 HA HS hi
            have hlen : u.size + T1.size ≤ 9223372036854775807 := by
              obtain ⟨⟨x, hx⟩, _⟩ := HK2.out.c
              have h1 := congrArg ByteArray.size hx
              rw [ByteArray.size_append, ByteArray.size_append, ByteArray.size_append] at h1
              omega
            go_wp2_with fail
            go_roundw
            case rel => exact ⟨j + 1, K2, U2, u ++ T1, E1, by omega, by go_num, rfl, rfl, HA9, HK2, HO2, HX2, HL2⟩
            case measure => simp [intOf]; omega
          · have hu : s = u := by
              rcases HL.out with ⟨h1, _⟩ | ⟨_, now, h1, h2⟩
              · omega
              · exact all_told h1 HEV.out h2 HO.out HK.out HA.out.bal
            subst hu
            have HBA := Lib.hid HA.out.2.2
            have dq : (s.toList == s.toList) = true := beq_self_eq_true _
            clear HL HK HO HX HA
            by_cases hjv : (j : Int) ≤ v
            · have dj : decide ((j : Int) ≤ v) = true := decide_eq_true hjv
              go_wp2_with fail
              refine (lalive _).mono ?_
              rintro e wE ⟨rfl, hbE⟩
              have HBE := Lib.hid (HBA.out.trans (hbE.mono HBA.out.size))
              clear hbE
              go_wp2_with fail
              go_ret
              exact ⟨rfl, HBE.out⟩
            · have dj : decide ((j : Int) ≤ v) = false := decide_eq_false hjv
              go_wp2_with fail
              refine (lalive _).mono ?_
              rintro e wE ⟨rfl, hbE⟩
              have HBE := Lib.hid (HBA.out.trans (hbE.mono HBA.out.size))
              clear hbE
              go_wp2_with fail
              go_ret
              exact ⟨rfl, HBE.out⟩
end linkFlows
end Go.Proofs.YtoiodcaohkfdjaaGreat

/-
  The walk of chicanelaw12.LinkDraws: it returns true, whatever toxics. Conditions: as each states.
-/
import Derived.Test.YtoiodcaohkfdjaaGreatMP49
namespace Go.Proofs.YtoiodcaohkfdjaaGreat
open Go.RowKit
namespace linkDraws
theorem up_get {l : List Tox} {up : Bool} {j : Nat} (hj : j < l.length) (hu : (l.getD j noTox).up = up) : (upL up (l.take j)).length < (upL up l).length ∧ (upL up l).getD (upL up (l.take j)).length noTox = l.getD j noTox := by
  have e : upL up l = upL up (l.take j) ++ (l.getD j noTox :: upL up (l.drop (j + 1))) := by
    conv => lhs; rw [← List.take_append_drop (j + 1) l, take_next hj]
    have h2 : ∀ a b : List Tox, upL up (a ++ b) = upL up a ++ upL up b := fun a b => List.filter_append ..
    rw [h2, up_yes up _ hu, List.append_assoc]
    rfl
  rw [e]
  refine ⟨by rw [List.length_append, List.length_cons]; omega, ?_⟩
  rw [List.getD_eq_getElem?_getD, List.getElem?_append_right (Nat.le_refl _), Nat.sub_self]
  rfl
theorem made_draws {k : Lk} {l : List Tox} {up : Bool} {room now : Int} (h : MkL k l up room now) : k.names.length = (upL up l).length ∧ k.c.L.length - 2 = (upL up l).length ∧ ∀ j, j < (upL up l).length → k.names.getD j ByteArray.empty = ((upL up l).getD j noTox).s ∧ Drw ((upL up l).getD j noTox) (k.c.at' (j + 1)).s.tx := by
  obtain ⟨ts, hm⟩ := h.made
  refine ⟨by rw [hm.names, List.length_map], by rw [hm.c]; show (frL ts room now).length - 2 = _; rw [frL_len, ← hm.len]; omega, fun j hj => ⟨?_, ?_⟩⟩
  · rw [hm.names, List.getD_eq_getElem?_getD, List.getElem?_map, List.getD_eq_getElem?_getD, List.getElem?_eq_getElem hj]
    rfl
  · rw [hm.c, fr_at (by rw [hm.len]; exact hj)]
    exact hm.each j hj
def NIn (w : World) (p : Option Addr) (n : Nat) (ns : List ByteArray) : Prop := 0 < n → ∃ b o, p = some ⟨b, o, none⟩ ∧ ∀ j, j < n → w.cell? ⟨b, o + j, none⟩ = some (.string (ns.getD j ByteArray.empty))
theorem nin_on {w w' : World} {p : Option Addr} {n : Nat} {ns : List ByteArray} (h : NIn w p n ns) (hb : Below w.heap.size w w') : NIn w' p n ns := fun hn => by
  obtain ⟨b, o, e, hc⟩ := h hn
  exact ⟨b, o, e, fun i hi => (hb.cell (World.block_lt_of_cell? w _ (hc i hi))).trans (hc i hi)⟩
theorem nin_of {w : World} {B n d : Nat} {a : Option Addr} {ns : List ByteArray} (h : gc.ORow w B 9 1 a n d (ns.map Value.string)) (hl : ns.length = n) : NIn w a n ns := fun hn => by
  obtain ⟨b, o, hp, hc⟩ := h.at hn
  refine ⟨b, o, hp, fun j hj => hc j _ ?_⟩
  rw [List.getElem?_map, List.getElem?_eq_getElem (by omega), List.getD_eq_getElem?_getD, List.getElem?_eq_getElem (by omega)]
  rfl
theorem tin_of {w : World} {B n d : Nat} {a : Option Addr} {l : List Tox} (h : gc.ORow w B 43 6 a n d (flatT l)) (hl : l.length = n) : ToxIn w a n l := fun hn => by
  obtain ⟨b, o, hp, hc⟩ := h.at hn
  have key : ∀ i, i < n → ∀ j, j < 6 → ∀ v, (cellsT (l.getD i noTox))[j]? = some v → w.cell? ⟨b, o + (i * 6 + j), none⟩ = some v := fun i hi j hj v hv => hc _ _ (by rw [flat_at l (by omega) hj]; exact hv)
  exact ⟨b, o, hp, fun i hi => ⟨key i hi 0 (by decide) _ rfl, key i hi 1 (by decide) _ rfl, key i hi 2 (by decide) _ rfl, key i hi 3 (by decide) _ rfl, key i hi 4 (by decide) _ rfl, key i hi 5 (by decide) _ rfl⟩⟩
set_option maxRecDepth 100000 in
set_option maxHeartbeats 8000000 in
theorem no_new (pl : Option Addr) (nl dl : Nat) (l : List Tox) (up : Bool) (seed room : Int) (w : World) (hl : l.length = nl) (hnd : nl ≤ dl) (hzl : ∀ t ∈ l, t.s.size ≤ 140737488351232) (hil : ToxIn w pl nl l) (hE : newLE l room ≠ 0) :
    Calls Tryz.prog 8 #[.agg #[.slice pl nl dl, .bool up, .int .u64 seed, .int .i64 room]] w fun e w' => e = .returned (.bool true) ∧ Below w.heap.size w w' := by
  have hal : Below w.heap.size w (w.alloc (.cells #[.slice pl nl dl, .bool up, .int .u64 seed, .int .i64 room] 25)) := (Below.refl _ _).alloc (Nat.le_refl _) _
  have HN := Lib.hid (lnew_no pl nl dl l up seed room 0 (w.alloc (.cells #[.slice pl nl dl, .bool up, .int .u64 seed, .int .i64 room] 25)) hl hnd hzl (toxs_on hil hal) hE)
  have HA := Lib.hid hal
  have d1 : (newLE l room != 0) = true := by simpa using hE
  have d2 : decide (newLE l room = 0) = false := by simpa using hE
  generalize newLE l room = E at *
  clear hE hal hl hzl hil
  go_enter Tryz.func8, Tryz.ntmps8
  go_wp2_with fail
  refine HN.out.mono ?_
  rintro e w2 ⟨rfl, hb⟩
  have HB2 := Lib.hid (HA.out.trans (hb.mono HA.out.size))
  clear hb HN HA
  go_wp2_with fail
  refine (lalive _).mono ?_
  rintro e w3 ⟨rfl, hb⟩
  have HB3 := Lib.hid (HB2.out.trans (hb.mono HB2.out.size))
  clear hb
  go_wp2_with fail
  go_ret
  exact ⟨rfl, HB3.out⟩
set_option maxRecDepth 100000 in
set_option maxHeartbeats 16000000 in
theorem walk (pl : Option Addr) (nl dl : Nat) (l : List Tox) (up : Bool) (seed room : Int) (w : World) (hl : l.length = nl) (hnd : nl ≤ dl) (hzl : ∀ t ∈ l, t.s.size ≤ 140737488351232) (hil : ToxIn w pl nl l) :
    Calls Tryz.prog 8 #[.agg #[.slice pl nl dl, .bool up, .int .u64 seed, .int .i64 room]] w fun e w' => e = .returned (.bool true) ∧ Below w.heap.size w w' := by
  by_cases hE : newLE l room ≠ 0
  · exact no_new pl nl dl l up seed room w hl hnd hzl hil hE
  have hE0 : newLE l room = 0 := by omega
  have hal : Below w.heap.size w (w.alloc (.cells #[.slice pl nl dl, .bool up, .int .u64 seed, .int .i64 room] 25)) := (Below.refl _ _).alloc (Nat.le_refl _) _
  have HN := Lib.hid (lnew pl nl dl l up seed room 0 (w.alloc (.cells #[.slice pl nl dl, .bool up, .int .u64 seed, .int .i64 room] 25)) hl hnd hzl (toxs_on hil hal) hE0)
  have HAL := Lib.hid hal
  have hnew := heap_alloc_new w (.cells #[.slice pl nl dl, .bool up, .int .u64 seed, .int .i64 room] 25)
  have HNW := Lib.hid hnew
  have HIL := Lib.hid (And.intro hl hil)
  have HCKL := Lib.hid (newLE_parts hE0).2
  clear hE hE0 hal hl hzl hil 
  go_enter Tryz.func8, Tryz.ntmps8
  go_wp2_with fail
  refine HN.out.mono ?_
  rintro e w2 ⟨g, V, rfl, h1, hmk⟩
  have hs0 := cell_of_row w2 w.heap.size 0 _ _ _ ((h1.2.2.block _ (gb.blk_lt hnew)).trans hnew)
  have hs1 := cell_of_row w2 w.heap.size 1 _ _ _ ((h1.2.2.block _ (gb.blk_lt hnew)).trans hnew)
  have hs2 := cell_of_row w2 w.heap.size 2 _ _ _ ((h1.2.2.block _ (gb.blk_lt hnew)).trans hnew)
  have hs3 := cell_of_row w2 w.heap.size 3 _ _ _ ((h1.2.2.block _ (gb.blk_lt hnew)).trans hnew)
  have HNW := Lib.hid ((h1.2.2.block _ (gb.blk_lt hnew)).trans hnew)
  have HA2 := Lib.hid (h1.base HAL.out)
  have HMK := Lib.hid hmk
  clear h1 hmk HN HAL hnew
  generalize (Lk.newK up seed room 0).addL 0 l = k0 at *
  go_wp2_with fail
  refine (lfew_any pl nl dl up seed room none 0 0 [] _ rfl (Nat.le_refl _) (by decide) (fun o ho => by cases ho) (fun h => absurd h (Nat.lt_irrefl _))).mono ?_
  rintro e w3 ⟨b, rfl, hf, hb⟩
  have HA3 := Lib.hid (HA2.out.on hb)
  have HNW := Lib.hid ((hb.block _ (gb.blk_lt HNW.out)).trans HNW.out)
  have HF := Lib.hid hf
  clear hb hf HA2 hs0 hs1 hs2 hs3
  cases b with
  | false =>
    clear HF
    go_wp2_with fail
    refine (lalive _).mono ?_
    rintro e w5 ⟨rfl, hb5⟩
    have HB5 := Lib.hid (HA3.out.on hb5).2.2
    clear hb5
    go_wp2_with fail
    go_ret
    exact ⟨rfl, HB5.out⟩
  | true =>
    obtain ⟨hnl, hm, htt⟩ := HF.out rfl
    have HT := Lib.hid htt
    clear HF htt
    go_wp2_with fail
    obtain ⟨hn1, hn2, hdr⟩ := made_draws HMK.out
    obtain ⟨n, hn⟩ : ∃ n, (upL up l).length = n := ⟨_, rfl⟩
    rw [hn] at hn1 hn2 hdr
    have HDR := Lib.hid hdr
    have HN := Lib.hid hn
    have hn8 : n ≤ 8 := by rw [← hn1]; exact HA3.out.ok.few
    have HNM := Lib.hid (fun (W : World) (hb : Below w3.heap.size w3 W) => lnames (HA3.out.on hb).1)
    unfold NamesOut at HNM
    rw [hn1] at HNM
    have HTX := Lib.hid (fun (W : World) (hb : Below w3.heap.size w3 W) => lchain (HA3.out.on hb).1)
    unfold ToxOut at HTX
    rw [hn2] at HTX
    obtain ⟨ch, z0, _⟩ := HTX.out w3 (Below.refl _ _)
    have HCH := Lib.hid (fun (W : World) (hb : Below w3.heap.size w3 W) => (show W.cell? ⟨g, 0, none⟩ = some (ptr ch) ∧ Calls Tryz.prog 25 #[ptr ch] W fun e w' => ∃ a d, e = .returned (.slice a n d) ∧ gc.ORow w' W.heap.size 43 6 a n d (flatT (txL k0.c n)) ∧ Below W.heap.size W w' from by
      obtain ⟨ch', z0', hc⟩ := HTX.out W hb
      have e := (hb.cell (World.block_lt_of_cell? w3 _ z0)).trans z0
      rw [e] at z0'
      have e2 : ch = ch' := by simpa using z0'
      rw [← e2] at hc
      exact ⟨e, hc⟩))
    clear HTX hdr hn
    go_upto_region 4 with fail
    go_cut [5, 6] from 34 (fun v5 v6 wc => ∃ a dn b db, v5 = .slice a n dn ∧ v6 = .slice b n db ∧ n ≤ dn ∧ dn ≤ 9223372036854775807 ∧ n ≤ db ∧ db ≤ 9223372036854775807 ∧ NIn wc a n k0.names ∧ ToxIn wc b n (txL k0.c n) ∧ Below w3.heap.size w3 wc)
    case first =>
      go_region_law
        (first
          | (go_simp; go_at_call 24; (with_reducible refine Calls.mono (HNM.out _ ((Below.refl _ _).drew)) ?_); rintro e wN ⟨a, dn, rfl, hrN, hbN⟩; have hbN : Below w3.heap.size w3 wN := ((Below.refl _ w3).drew).trans hbN; have HRN := Lib.hid (And.intro hrN hbN); have z1 := (HCH.out _ hbN).1; clear hrN hbN)
          | (go_simp; go_at_call 25; (with_reducible refine Calls.mono (HCH.out _ HRN.out.2).2 ?_); rintro e wT ⟨b, db, rfl, hrT, hbT⟩; have HRT := Lib.hid (And.intro hrT hbT); clear hrT hbT))
      all_goals (
        go_wp2_with fail
        go_meet
        have hm1 := HRN.out.1.max
        have hm2 := HRT.out.1.max
        unfold maxLen at hm1 hm2
        exact ⟨a, dn, b, db, rfl, rfl, HRN.out.1.cap, by omega, HRT.out.1.cap, by omega, nin_on (nin_of HRN.out.1 hn1) HRT.out.2, tin_of HRT.out.1 (txL_len _ _), HRN.out.2.trans (HRT.out.2.mono HRN.out.2.size)⟩)
    case rest =>
      obtain ⟨a, dn, b, db, rfl, rfl, ha1, ha2, hb1, hb2, hni, hti, hbw⟩ := hcut
      have HNI := Lib.hid hni
      have HTI := Lib.hid hti
      have HA4 := Lib.hid (HA3.out.on hbw)
      have HNC := Lib.hid ((hbw.block _ (gb.blk_lt HNW.out)).trans HNW.out)
      have hs0 := cell_of_row wc w.heap.size 0 _ _ _ HNC.out
      clear hni hti hbw HNM HCH HA3 HNW z0
      go_wp2_with fail
      clear hs0
      go_loopw [7, 9, 44] (fun va _ i wr => ∃ (k : Nat) (c : Nat), k ≤ nl ∧ i = .int .i64 k ∧ va = .int .i64 c ∧ c ≤ n ∧ Hid (c = (upL up (l.take k)).length) ∧ Hid (Below wc.heap.size wc wr)) (fun _ _ i _ => nl - (intOf i).toNat)
      case atStart => exact ⟨0, 0, by omega, rfl, rfl, Nat.zero_le _, Lib.hid rfl, Lib.hid (Below.refl _ _)⟩
      case round =>
        obtain ⟨k, c, hk, rfl, rfl, hcn, HC, HB⟩ := hrel
        have hbw : Below w.heap.size w wr := HA4.out.2.2.trans (HB.out.mono HA4.out.2.2.size)
        by_cases hlt : k < nl
        · obtain ⟨bb, oo, rfl, hcell⟩ := toxs_on HIL.out.2 hbw (by omega)
          obtain ⟨c0, c1, c2, c3, c4, c5⟩ := hcell k hlt
          have hkl : k < l.length := by rw [HIL.out.1]; exact hlt
          have HUG := Lib.hid (fun hu => up_get (up := up) hkl hu)
          have HTN := Lib.hid (take_next hkl)
          have hcs := Lib.hid ((check_ok HCKL.out).2.1 _ (getD_mem hkl))
          generalize l.getD k noTox = t at *
          rw [← Nat.add_assoc] at c1 c2 c3 c4 c5
          have hal : Below wr.heap.size wr (wr.alloc (.cells #[.string t.s, .int .i64 t.k, .bool t.up, .int .i64 t.o, .int .i64 t.a, .int .i64 t.b] 43)) := (Below.refl _ _).alloc (Nat.le_refl _) _
          have hnew := heap_alloc_new wr (.cells #[.string t.s, .int .i64 t.k, .bool t.up, .int .i64 t.o, .int .i64 t.a, .int .i64 t.b] 43)
          have HB4 := Lib.hid (HB.out.trans (hal.mono HB.out.size))
          have hs1 : (wr.alloc (.cells #[.string t.s, .int .i64 t.k, .bool t.up, .int .i64 t.o, .int .i64 t.a, .int .i64 t.b] 43)).cell? ⟨w.heap.size, 1, none⟩ = some (.bool up) := cell_of_row _ w.heap.size 1 _ _ _ ((HB4.out.block _ (gb.blk_lt HNC.out)).trans HNC.out)
          clear hcell hal
          go_upto_region 9 with fail
          generalize wr.alloc (.cells #[.string t.s, .int .i64 t.k, .bool t.up, .int .i64 t.o, .int .i64 t.a, .int .i64 t.b] 43) = w4 at *
          generalize wr.heap.size = gt at *
          have u0 := cell_of_row w4 _ 0 _ _ _ hnew
          have u1 := cell_of_row w4 _ 1 _ _ _ hnew
          have u2 := cell_of_row w4 _ 2 _ _ _ hnew
          have u3 := cell_of_row w4 _ 3 _ _ _ hnew
          have u4 := cell_of_row w4 _ 4 _ _ _ hnew
          have u5 := cell_of_row w4 _ 5 _ _ _ hnew
          clear c0 c1 c2 c3 c4 c5 hnew
          by_cases hu : t.up = up
          · have d1 : (t.up != up) = false := by simp [hu]
            have d2 : (t.up == up) = true := by simp [hu]
            obtain ⟨hcl, hcg⟩ := HUG.out hu
            rw [← HC.out, HN.out] at hcl
            rw [← HC.out] at hcg
            obtain ⟨hnm, hdw⟩ := HDR.out c hcl
            rw [hcg] at hnm hdw
            obtain ⟨b1, o1, rfl, hcs1⟩ := nin_on HNI.out HB4.out (by omega)
            have v0 := hcs1 c hcl
            rw [hnm] at v0
            obtain ⟨b2, o2, rfl, hcs2⟩ := toxs_on HTI.out HB4.out (by omega)
            obtain ⟨x0, x1, x2, x3, x4, x5⟩ := hcs2 c hcl
            rw [txL_at _ hcl] at x0 x1 x2 x3 x4 x5
            have hc2 : (upL up (l.take (k + 1))).length = c + 1 := by rw [HTN.out, up_yes up _ hu, List.length_append, ← HC.out]; rfl
            have HC2 := Lib.hid hc2.symm
            generalize (k0.c.at' (c + 1)).s.tx = x at *
            rw [← Nat.add_assoc] at x1 x2 x3 x4 x5
            have HDW := Lib.hid hdw
            have hnz : ¬ t.s.toList = [] := fun e => by
              have h1 := (Lk.chk_name hcs.out).1
              have h2 : t.s = ⟨#[]⟩ := ByteArray.ext (Array.toList_inj.mp (by rw [← ByteArray.toList_eq]; exact e))
              rw [h2] at h1
              exact absurd h1 (by decide)
            have h3 : (t.s.toList == []) = false := by simpa using hnz
            have h4 : (([] : List UInt8) == t.s.toList) = false := by
              cases h : t.s.toList with
              | nil => exact absurd h hnz
              | cons y r => rfl
            have dg : decide ((n : Int) ≤ (c : Int)) = false := decide_eq_false (by omega)
            have qn : IntKind.i64.wrap ((c : Int) + 1) = (c : Int) + 1 := wrap_id (by omega) (by omega)
            clear hu hcg hnm hdw hcs1 hcs2 hc2 HUG HTN
            go_wp2_with fail
            go_quiet (fail)
            go_wp2_with fail
            obtain ⟨hx1, hx2, hx3⟩ := HDW.out
            have hwq := Lib.hid (fun n1 => HB4.out.trans ((gc.below_drewN w4 n1).mono HB4.out.size))
            rcases hx1 with hx | hx
            · subst hx
              have h0 : x.o ≠ 0 := fun h => by
                have e := hx3 h
                rw [e] at hnz
                exact hnz (by show (⟨#[]⟩ : ByteArray).toList = []; rw [ByteArray.toList_eq])
              have q2 : (x.o == 0) = false := by simpa using h0
              by_cases h100 : x.o = 100
              · have q1 : (x.o == 100) = true := by simp [h100]
                clear h100 hx2 hx3 h0
                go_quiet (fail)
                go_wp2_with fail
                go_roundw
                case rel => exact ⟨k + 1, c + 1, by omega, by go_num, by go_num, by omega, HC2, Lib.hid (hwq.out _)⟩
                case measure => simp [intOf]; omega
              · have q1 : (x.o == 100) = false := by simpa using h100
                clear h100 hx2 hx3 h0
                go_quiet (fail)
                go_wp2_with fail
                go_roundw
                case rel => exact ⟨k + 1, c + 1, by omega, by go_num, by go_num, by omega, HC2, Lib.hid (hwq.out _)⟩
                case measure => simp [intOf]; omega
            · subst hx
              have h0 : t.o ≠ 100 := fun h => by
                have e := hx2 h
                rw [← e] at hnz
                exact hnz (by show (⟨#[]⟩ : ByteArray).toList = []; rw [ByteArray.toList_eq])
              have q2 : (t.o == 100) = false := by simpa using h0
              simp only [noTox] at x0 x1 x2 x3 x4 x5
              by_cases h100 : t.o = 0
              · have q1 : (t.o == 0) = true := by simp [h100]
                clear h100 hx2 hx3 h0
                go_quiet (fail)
                go_wp2_with fail
                go_roundw
                case rel => exact ⟨k + 1, c + 1, by omega, by go_num, by go_num, by omega, HC2, Lib.hid (hwq.out _)⟩
                case measure => simp [intOf]; omega
              · have q1 : (t.o == 0) = false := by simpa using h100
                clear h100 hx2 hx3 h0
                go_quiet (fail)
                go_wp2_with fail
                go_roundw
                case rel => exact ⟨k + 1, c + 1, by omega, by go_num, by go_num, by omega, HC2, Lib.hid (hwq.out _)⟩
                case measure => simp [intOf]; omega
          · have d1 : (t.up != up) = true := by simpa using hu
            have d2 : (t.up == up) = false := by simpa using hu
            have HC2 := Lib.hid (show c = (upL up (l.take (k + 1))).length by rw [HTN.out, up_no up _ hu]; exact HC.out)
            clear hu HUG HTN hcs
            go_wp2_with fail
            go_roundw
            case rel => exact ⟨k + 1, c, by omega, by go_num, rfl, hcn, HC2, HB4⟩
            case measure => simp [intOf]; omega
        · obtain rfl : k = nl := by omega
          have hcn2 : c = n := by rw [HC.out, ← HIL.out.1, List.take_length]; exact HN.out
          subst hcn2
          clear hlt hk
          go_wp2_with fail
          refine (lalive _).mono ?_
          rintro e w5 ⟨rfl, hb5⟩
          have HB5 := Lib.hid (hbw.trans (hb5.mono hbw.size))
          clear hb5
          go_wp2_with fail
          go_ret
          exact ⟨rfl, HB5.out⟩
end linkDraws
end Go.Proofs.YtoiodcaohkfdjaaGreat

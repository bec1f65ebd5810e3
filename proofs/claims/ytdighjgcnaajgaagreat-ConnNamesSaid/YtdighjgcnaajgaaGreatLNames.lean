/-
  The walk of chicanelaw13.ConnNames: it returns true, whatever toxic. Conditions: as each states.
-/
import Derived.Test.YtdighjgcnaajgaaGreatMT7
namespace Go.Proofs.YtdighjgcnaajgaaGreat
open Go.RowKit
namespace connNames
set_option maxRecDepth 100000 in
set_option maxHeartbeats 8000000 in
theorem no_new (pl : Option Addr) (nl dl : Nat) (l : List Tox) (seed room now : Int) (t : Tox) (w : World) (hl : l.length = nl) (hnd : nl ≤ dl) (hzl : ∀ t ∈ l, t.s.size ≤ 140737488351232) (hil : ToxIn w pl nl l) (hE : newLE l room ≠ 0) :
    Calls Tryz.prog 8 #[.agg #[.slice pl nl dl, .int .u64 seed, .int .i64 room, .int .i64 now], t.v] w fun e w' => e = .returned (.bool true) ∧ Below w.heap.size w w' := by
  have hal : Below w.heap.size w ((w.alloc (.cells #[.slice pl nl dl, .int .u64 seed, .int .i64 room, .int .i64 now] 25)).alloc (toxObj t)) := ((Below.refl _ _).alloc (Nat.le_refl _) _).alloc (by simp) _
  have HN := Lib.hid (knew_no pl nl dl l seed room now ((w.alloc (.cells #[.slice pl nl dl, .int .u64 seed, .int .i64 room, .int .i64 now] 25)).alloc (toxObj t)) hl hnd hzl (toxs_on hil hal) hE)
  have HA := Lib.hid hal
  have d1 : (newLE l room != 0) = true := by simpa using hE
  have d2 : decide (newLE l room = 0) = false := by simpa using hE
  generalize newLE l room = E at *
  clear hE hal hl hzl hil
  unfold Tox.v
  unfold toxObj at HN HA
  go_enter Tryz.func8, Tryz.ntmps8
  go_wp2_with fail
  refine HN.out.mono ?_
  rintro e w2 ⟨rfl, hb⟩
  have HB2 := Lib.hid (HA.out.trans (hb.mono HA.out.size))
  clear hb HN HA
  go_wp2_with fail
  refine (yalive _).mono ?_
  rintro e w3 ⟨rfl, hb⟩
  have HB3 := Lib.hid (HB2.out.trans (hb.mono HB2.out.size))
  clear hb
  go_wp2_with fail
  go_ret
  exact ⟨rfl, HB3.out⟩
set_option maxRecDepth 100000 in
set_option maxHeartbeats 16000000 in
theorem walk (pl : Option Addr) (nl dl : Nat) (l : List Tox) (seed room now : Int) (t : Tox) (w : World) (hl : l.length = nl) (hnd : nl ≤ dl) (hzl : ∀ t ∈ l, t.s.size ≤ 140737488351232) (hil : ToxIn w pl nl l) (hzt : t.s.size ≤ 140737488351232) :
    Calls Tryz.prog 8 #[.agg #[.slice pl nl dl, .int .u64 seed, .int .i64 room, .int .i64 now], t.v] w fun e w' => e = .returned (.bool true) ∧ Below w.heap.size w w' := by
  by_cases hE : newLE l room ≠ 0
  · exact no_new pl nl dl l seed room now t w hl hnd hzl hil hE
  have hE0 : newLE l room = 0 := by omega
  obtain ⟨hal, hsz, hn⟩ := allocs [(.cells #[.slice pl nl dl, .int .u64 seed, .int .i64 room, .int .i64 now] 25), toxObj t] w
  have hn0 := hn 0 (by simp)
  have hn1 := hn 1 (by simp)
  simp only [Nat.add_zero, List.getElem_cons_zero, List.getElem_cons_succ, List.foldl_cons, List.foldl_nil] at hn0 hn1 hal
  have HN := Lib.hid (knew pl nl dl l seed room now _ hl hnd hzl (toxs_on hil hal) hE0)
  have HAL := Lib.hid hal
  clear hE hE0 hal hl hzl hil hn hsz
  obtain ⟨B1, hB1⟩ : ∃ B1, w.heap.size + 1 = B1 := ⟨_, rfl⟩
  rw [hB1] at hn1
  unfold Tox.v
  unfold toxObj at HN HAL hn0
  go_enter Tryz.func8, Tryz.ntmps8
  go_wp2_with fail
  refine HN.out.mono ?_
  rintro e w2 ⟨g, V, rfl, h1, hm1, hm2⟩
  have hnw2 := (h1.2.2.block _ (gb.blk_lt hn0)).trans hn0
  have hnt2 := (h1.2.2.block _ (gb.blk_lt hn1)).trans hn1
  have hs0 := cell_of_row w2 w.heap.size 0 _ _ _ hnw2
  have hs1 := cell_of_row w2 w.heap.size 1 _ _ _ hnw2
  have hs2 := cell_of_row w2 w.heap.size 2 _ _ _ hnw2
  have hs3 := cell_of_row w2 w.heap.size 3 _ _ _ hnw2
  have HNT := Lib.hid hnt2
  have hnv : ¬ V B1 := fun hv => by
    have h5 := h1.2.1 _ hv
    have h6 := gb.blk_lt hn1
    exact Nat.lt_irrefl _ (Nat.lt_of_lt_of_le h6 h5)
  have HA2 := Lib.hid (h1.base HAL.out)
  clear h1 hm1 hm2 HN HAL hn0 hn1 hnw2 hnt2
  generalize Cn.newC l seed room now l.length = k0 at *
  go_wp2_with fail
  refine (kfew_any pl nl dl seed room now none 0 0 [] _ rfl (Nat.le_refl _) (by decide) (fun o ho => by cases ho) (fun h => absurd h (Nat.lt_irrefl _))).mono ?_
  rintro e w3 ⟨b, rfl, hf, hb⟩
  have HA3 := Lib.hid (HA2.out.on hb)
  have hnt3 := (hb.block _ (gb.blk_lt HNT.out)).trans HNT.out
  have HNV := Lib.hid hnv
  have HNT3 := Lib.hid hnt3
  clear hb hf HA2 HNT hs0 hs1 hs2 hs3 hnv
  obtain ⟨c0, c1, c2, c3, c4, c5⟩ := tox_cells hnt3
  have ALV : ∀ W, Below w3.heap.size w3 W → Hid (Calls Tryz.prog 11 #[] W fun e w' => e = .returned (.bool true) ∧ Below w.heap.size w w') := fun W hb => Lib.hid ((yalive W).mono fun e w' he => ⟨he.1, ((HA3.out.on hb).on he.2).2.2⟩)
  cases b with
  | false =>
    go_wp2_with fail
    refine (ALV w3 (Below.refl _ _)).out.mono ?_
    rintro e w5 ⟨rfl, hb5⟩
    have HB5 := Lib.hid hb5
    clear hb5
    go_wp2_with fail
    go_ret
    exact ⟨rfl, HB5.out⟩
  | true =>
    by_cases h100 : 100 < t.s.size
    · have d1 : decide ((100 : Int) < (t.s.size : Int)) = true := decide_eq_true (by omega)
      go_wp2_with fail
      refine (ALV w3 (Below.refl _ _)).out.mono ?_
      rintro e w5 ⟨rfl, hb5⟩
      have HB5 := Lib.hid hb5
      clear hb5
      go_wp2_with fail
      go_ret
      exact ⟨rfl, HB5.out⟩
    · have d1 : decide ((100 : Int) < (t.s.size : Int)) = false := decide_eq_false (by omega)
      have HNM := Lib.hid (inames HA3.out.1)
      clear ALV
      go_wp2_with fail
      refine HNM.out.mono ?_
      rintro e w4 ⟨q, cq, rfl, hrow, hb⟩
      have HA4 := Lib.hid (HA3.out.on hb)
      have HNT4 := Lib.hid ((hb.block _ (gb.blk_lt HNT3.out)).trans HNT3.out)
      have HROW := Lib.hid (row_strs hrow)
      have hcc := hrow.cap
      have hmm := hrow.max
      clear hb hrow HA3 HNT3 HNM c0 c1 c2 c3 c4 c5 hnt3
      have hnm0 : k0.names.length ≤ 16 := by
        have h1 := (krep_ok HA4.out.1).2.2.1.length_eq
        rw [List.length_append] at h1
        have h2 := (krep_ok HA4.out.1).1.1.few
        have h3 := (krep_ok HA4.out.1).2.1.1.few
        omega
      obtain ⟨n, hn⟩ : ∃ n, k0.names.length = n := ⟨_, rfl⟩
      have HNL := Lib.hid hn
      rw [hn] at hcc HROW hnm0 ⊢
      clear hn
      go_wp2_with fail
      go_loopw [7, 9, 50] (fun vt _ i wr => ∃ (j : Nat) (b : Bool), j ≤ n ∧ i = .int .i64 (j : Int) ∧ vt = .bool b ∧ wr = w4 ∧ Hid (b = true ↔ t.s ∈ k0.names.take j)) (fun _ _ i _ => n - (intOf i).toNat)
      case atStart => exact ⟨0, false, Nat.zero_le _, rfl, rfl, rfl, Lib.hid (by simp)⟩
      case round =>
        obtain ⟨j, b, hj, rfl, rfl, rfl, HB⟩ := hrel
        obtain ⟨c0, c1, c2, c3, c4, c5⟩ := tox_cells HNT4.out
        by_cases hlt : j < n
        · obtain ⟨bq, oq, rfl, hcell⟩ := HROW.out (by omega)
          have x0 := hcell j hlt
          have HTN := Lib.hid (take_name (show j < k0.names.length by rw [HNL.out]; exact hlt))
          generalize k0.names.getD j ByteArray.empty = z at *
          clear hcell HROW
          cases b with
          | true =>
            go_wp2_with fail
            go_roundw
            case rel => exact ⟨j + 1, true, by omega, by go_num, rfl, trivial, Lib.hid ⟨fun _ => by rw [HTN.out]; exact List.mem_append_left _ (HB.out.1 rfl), fun _ => rfl⟩⟩
            case measure => simp [intOf]; omega
          | false =>
            go_wp2_with fail
            go_roundw
            case rel => exact ⟨j + 1, decide (z = t.s), by omega, by go_num, by rw [bytes_eq], trivial, Lib.hid (by
              rw [HTN.out]
              simp only [decide_eq_true_eq, List.mem_append, List.mem_singleton]
              exact ⟨fun e => Or.inr e.symm, fun e => e.elim (fun e => by have := HB.out.2 e; cases this) fun e => e.symm⟩)⟩
            case measure => simp [intOf]; omega
        · obtain rfl : j = n := by omega
          have HBT := Lib.hid (show b = true ↔ t.s ∈ k0.names by rw [← List.take_length (l := k0.names), HNL.out]; exact HB.out)
          have hlt1 := gb.blk_lt HNT4.out
          have hnz : NmZ w (wr.alloc (toxObj t.flip)) V g k0 128 B1 wr.heap.size t := by
            have hal : Below wr.heap.size wr (wr.alloc (toxObj t.flip)) := (Below.refl _ _).alloc (Nat.le_refl _) _
            exact ⟨HA4.out.on hal, (hal.block _ hlt1).trans HNT4.out, heap_alloc_new _ _, HNV.out, HA4.out.new (Nat.le_refl _)⟩
          have HZ := Lib.hid hnz
          clear hnz HB HROW
          have hfl : toxObj t.flip = .cells #[.string t.s, .int .i64 t.k, .bool (!t.up), .int .i64 t.o, .int .i64 t.a, .int .i64 t.b] 46 := rfl
          rw [hfl] at HZ
          go_upto_region 12 with fail
          generalize wr.alloc (.cells #[.string t.s, .int .i64 t.k, .bool (!t.up), .int .i64 t.o, .int .i64 t.a, .int .i64 t.b] 46) = w5 at *
          generalize wr.heap.size = B2 at *
          have hoks := krep_ok HZ.out.hd.1
          have hokl : ∀ i, Lok (k0.lk i) ∧ (k0.lk i).Bal := fun i => by
            unfold Cn.lk
            split
            · exact hoks.1
            · exact hoks.2.1
          have hup : t.up = (k0.lk (Cn.wayT t)).up := by
            unfold Cn.wayT Cn.lk
            cases hu : t.up with
            | true => exact hoks.2.2.2.1.symm
            | false => exact hoks.2.2.2.2.symm
          have HF := Lib.hid (iadd HZ.out.hd.1 t (by unfold maxLen; omega) 0 (M' := 300) (by omega) (by decide))
          have HALV : Hid (∀ (W : World), Below w.heap.size w W → Calls Tryz.prog 11 #[] W fun e w' => e = .returned (.bool true) ∧ Below w.heap.size w w') := fun W hb => (yalive W).mono fun e w' he => ⟨he.1, below_two hb he.2⟩
          have hcs := Cn.add_cases k0 t 0
          obtain ⟨⟨c0, c1, c2, c3, c4, c5⟩, _⟩ := HZ.out.cells
          unfold Tox.v at HF
          by_cases hf0 : k0.addE t 0 = 0
          · have hcs3 : t.chk = 0 ∧ t.s ∉ k0.names ∧ (k0.lk (Cn.wayT t)).addE t 0 = 0 ∧ k0.addK t 0 = { k0.on (Cn.wayT t) (fun l => l.addK t 0) with names := k0.names ++ [t.s] } := by
              rcases hcs with ⟨q1, q2⟩ | ⟨q1, q2, q3, q4⟩ | ⟨q1, q2, q3, q4⟩
              · exact absurd (q2.symm.trans hf0) q1
              · rw [q3] at hf0
                exact absurd hf0 (by decide)
              · have h0 := q3.symm.trans hf0
                exact ⟨q1, q2, h0, q4 h0⟩
            obtain ⟨q1, q2, q3, q4⟩ := hcs3
            obtain rfl : b = false := by
              cases b with
              | false => rfl
              | true => exact absurd (HBT.out.1 rfl) q2
            obtain ⟨m1, m2⟩ := Cn.add_mem (hokl _).1 (hokl _).2 hup q1 q3 q4
            rw [hf0] at HF
            obtain ⟨K1, hK1⟩ : ∃ K1, k0.addK t 0 = K1 := ⟨_, rfl⟩
            rw [hK1] at HF m1 m2
            have HM := Lib.hid (And.intro q1 (And.intro q2 m1))
            clear hcs hf0 q3 q4 hK1 hokl hup hoks q1 q2 m1 m2
            go_wp2_with fail
            refine HF.out.mono ?_
            rintro e w6 ⟨rfl, hs⟩
            obtain ⟨V6, hz6⟩ := HZ.out.step hs
            have HZ6 := Lib.hid hz6
            clear hs hz6 HF HZ c0 c1 c2 c3 c4 c5
            obtain ⟨⟨c0, c1, c2, c3, c4, c5⟩, u0, u1, u2, u3, u4, u5⟩ := HZ6.out.cells
            have hg : K1.addE t.flip 0 = 141 ∧ K1.addK t.flip 0 = K1 := by
              have hm : t.flip.s ∈ K1.names := by rw [HM.out.2.2]; show t.s ∈ k0.names ++ [t.s]; simp
              rcases Cn.add_cases K1 t.flip 0 with ⟨q1, _⟩ | ⟨_, _, q3, q4⟩ | ⟨_, q2, _⟩
              · exact absurd HM.out.1 q1
              · exact ⟨q3, q4⟩
              · exact absurd hm q2
            have HG := Lib.hid (iadd HZ6.out.hd.1 t.flip (by show t.s.size ≤ maxLen; unfold maxLen; omega) 0 (M' := 500) (by show 300 + t.s.size ≤ 500; omega) (by decide))
            rw [hg.1, hg.2] at HG
            unfold Tox.v Tox.flip at HG
            simp only at HG
            clear hg
            go_wp2_with fail
            refine HG.out.mono ?_
            rintro e w7 ⟨rfl, hs⟩
            obtain ⟨V7, hz7⟩ := HZ6.out.step hs
            have HZ7 := Lib.hid hz7
            clear hs hz7 HG HZ6 c0 c1 c2 c3 c4 c5 u0 u1 u2 u3 u4 u5
            obtain ⟨⟨c0, c1, c2, c3, c4, c5⟩, u0, u1, u2, u3, u4, u5⟩ := HZ7.out.cells
            have HNM := Lib.hid (inames HZ7.out.hd.1)
            go_wp2_with fail
            refine HNM.out.mono ?_
            rintro e w8 ⟨q8, cq8, rfl, _, hb⟩
            have HZ8 := Lib.hid (HZ7.out.on hb)
            have hdr := Cn.drop_yes (krep_ok HZ8.out.hd.1).2.2.1 0 (show t.s ∈ K1.names by rw [HM.out.2.2]; simp)
            have HDR := Lib.hid (idrop HZ8.out.hd.1 t.s 0)
            rw [hdr.1] at HDR
            have hn2 : (K1.dropK t.s 0).names = k0.names := by rw [hdr.2.1, HM.out.2.2]; exact Cn.ers_last HM.out.2.1
            have HP2 := Lib.hid (And.intro hn2 hdr.2.2)
            obtain ⟨K2, hK2⟩ : ∃ K2, K1.dropK t.s 0 = K2 := ⟨_, rfl⟩
            rw [hK2] at HDR HP2
            clear hb hdr hn2 hK2 HNM HZ7 c0 c1 c2 c3 c4 c5 u0 u1 u2 u3 u4 u5
            obtain ⟨⟨c0, c1, c2, c3, c4, c5⟩, u0, u1, u2, u3, u4, u5⟩ := HZ8.out.cells
            have hlen : K1.names.length = k0.names.length + 1 := by rw [HM.out.2.2]; simp
            obtain ⟨n1, hn1⟩ : ∃ n1, K1.names.length = n1 := ⟨_, rfl⟩
            rw [hn1] at hlen ⊢
            have HLN := Lib.hid hlen
            clear hn1 hlen
            go_wp2_with fail
            refine HDR.out.mono ?_
            rintro e w9 ⟨rfl, hs⟩
            obtain ⟨V9, hz9⟩ := HZ8.out.step hs
            have HZ9 := Lib.hid hz9
            clear hs hz9 HDR HZ8 c0 c1 c2 c3 c4 c5 u0 u1 u2 u3 u4 u5
            obtain ⟨⟨c0, c1, c2, c3, c4, c5⟩, u0, u1, u2, u3, u4, u5⟩ := HZ9.out.cells
            have HD2 := Lib.hid (idrop HZ9.out.hd.1 t.s 0)
            have hdn := Cn.drop_none HP2.out.2 (s := t.s) 0 (by rw [HP2.out.1]; exact HM.out.2.1)
            rw [hdn.1, hdn.2] at HD2
            clear hdn
            go_wp2_with fail
            refine HD2.out.mono ?_
            rintro e w10 ⟨rfl, hs⟩
            obtain ⟨V10, hz10⟩ := HZ9.out.step hs
            have HZ10 := Lib.hid hz10
            clear hs hz10 HD2 HZ9 c0 c1 c2 c3 c4 c5 u0 u1 u2 u3 u4 u5
            obtain ⟨⟨c0, c1, c2, c3, c4, c5⟩, u0, u1, u2, u3, u4, u5⟩ := HZ10.out.cells
            have hok2 := krep_ok HZ10.out.hd.1
            have hfree : Hid ((K2.addE t.flip 0 = 0 ∧ (K2.addK t.flip 0).names.length = n1) ∨ K2.addE t.flip 0 = 110) := by
              have hokl : ∀ i, Lok (K2.lk i) ∧ (K2.lk i).Bal := fun i => by
                unfold Cn.lk
                split
                · exact hok2.1
                · exact hok2.2.1
              have hup : t.flip.up = (K2.lk (Cn.wayT t.flip)).up := by
                unfold Cn.wayT Cn.lk
                cases hu : t.flip.up with
                | true => exact hok2.2.2.2.1.symm
                | false => exact hok2.2.2.2.2.symm
              have := Cn.add_free (t := t.flip) (now := 0) HP2.out.2 hokl hup HM.out.1 (by rw [HP2.out.1]; exact HM.out.2.1)
              rw [HP2.out.1, ← HLN.out] at this
              exact this
            have HG2 := Lib.hid (iadd HZ10.out.hd.1 t.flip (by show t.s.size ≤ maxLen; unfold maxLen; omega) 0 (M' := 700) (by show 500 + t.s.size ≤ 700; omega) (by decide))
            generalize K2.addE t.flip 0 = E at *
            generalize K2.addK t.flip 0 = K3 at *
            unfold Tox.v Tox.flip at HG2
            simp only at HG2
            clear hok2 HM HLN HP2 HBT
            go_wp2_with fail
            refine HG2.out.mono ?_
            rintro e w11 ⟨rfl, hs⟩
            obtain ⟨V11, hz11⟩ := HZ10.out.step hs
            have HZ11 := Lib.hid hz11
            clear hs hz11 HG2 HZ10 c0 c1 c2 c3 c4 c5 u0 u1 u2 u3 u4 u5
            obtain ⟨⟨c0, c1, c2, c3, c4, c5⟩, u0, u1, u2, u3, u4, u5⟩ := HZ11.out.cells
            have HAV := Lib.hid (HALV.out w11 HZ11.out.hd.2.2)
            have HAV2 := Lib.hid ((yalive w11).mono fun e w' he => (show e = .returned (.bool true) ∧ NmZ w w' V11 g K3 700 B1 B2 t from ⟨he.1, HZ11.out.on he.2⟩))
            clear HALV HAV HZ11 c0 c1 c2 c3 c4 c5 u0 u1 u2 u3 u4 u5
            go_wp2_with fail
            refine HAV2.out.mono ?_
            rintro e w12 ⟨rfl, hz12⟩
            have HZ12 := Lib.hid hz12
            clear hz12 HAV2
            rcases hfree.out with ⟨rfl, hl⟩ | rfl
            · have HNM := Lib.hid (inames HZ12.out.hd.1)
              unfold NamesOut at HNM
              rw [hl] at HNM
              have HNB := Lib.hid (fun w' (hb : Below w12.heap.size w12 w') => (HZ12.out.hd.on hb).2.2)
              clear hl hfree HZ12
              go_wp2_with fail
              refine HNM.out.mono ?_
              rintro e w13 ⟨q9, cq9, rfl, _, hb⟩
              have HB13 := Lib.hid (HNB.out w13 hb)
              clear hb HNM HNB
              go_wp2_with fail
              go_ret
              exact ⟨rfl, HB13.out⟩
            · have HB12 := Lib.hid HZ12.out.hd.2.2
              clear hfree HZ12
              go_wp2_with fail
              go_ret
              exact ⟨rfl, HB12.out⟩
          · have hfr : Hid ((b = false) ∨ (k0.addE t 0 = 141) ∨ (90 ≤ k0.addE t 0 ∧ k0.addE t 0 ≤ 92)) := by
              rcases hcs with ⟨q1, q2⟩ | ⟨q1, q2, q3, q4⟩ | ⟨q1, q2, q3, q4⟩
              · rw [q2]
                exact Or.inr (Or.inr ((chk_range t).resolve_left q1))
              · exact Or.inr (Or.inl q3)
              · left
                cases b with
                | false => rfl
                | true => exact absurd (HBT.out.1 rfl) q2
            generalize k0.addE t 0 = E at *
            generalize k0.addK t 0 = K1 at *
            have d1 : (E != 0) = true := by simpa using hf0
            have d2 : decide (E = 0) = false := by simpa using hf0
            clear hcs hokl hup hoks
            go_wp2_with fail
            refine HF.out.mono ?_
            rintro e w6 ⟨rfl, hs⟩
            obtain ⟨V6, hz6⟩ := HZ.out.step hs
            have HB6 := Lib.hid hz6.hd.2.2
            clear hs hz6 HF HZ c0 c1 c2 c3 c4 c5
            go_wp2_with fail
            refine (HALV.out w6 HB6.out).mono ?_
            rintro e w7 ⟨rfl, hb⟩
            have HB7 := Lib.hid hb
            clear hb HALV HB6
            cases b with
            | false =>
              clear hfr HBT
              go_wp2_with fail
              go_ret
              exact ⟨rfl, HB7.out⟩
            | true =>
              clear HBT
              by_cases h141 : E = 141
              · subst h141
                go_wp2_with fail
                go_ret
                exact ⟨rfl, HB7.out⟩
              · have hr := (hfr.out.resolve_left (by decide)).resolve_left h141
                have d3 : (E == 141) = false := by simpa using h141
                have d4 : decide (E = 141) = false := by simpa using h141
                have d5 : decide (90 ≤ E) = true := decide_eq_true hr.1
                have d6 : decide (E ≤ 92) = true := decide_eq_true hr.2
                clear hfr h141 hr
                go_wp2_with fail
                go_ret
                exact ⟨rfl, HB7.out⟩
end connNames
end Go.Proofs.YtdighjgcnaajgaaGreat

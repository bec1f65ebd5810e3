/-
  Contracts: the closures that change a proxy: DropToxic's, SetToxic's. Conditions: as each states.
-/
import Derived.Test.YtmghkcjljnlocaaGreatDoorPO
namespace Go.Proofs.YtmghkcjljnlocaaGreatDoor
open Go.RowKit
section
variable {W : World} {base b o n c K g : Nat} {zs : List RP}
/-- One proxy's toxics are changed in their place. -/
theorem PRow.settox {w1 : World} (h : PRow W base (some ⟨b, o, none⟩) n c zs) (hd : Dis zs) (hK : K < n) {z : RP} (hz : zs.getD K noRP = z) (hg : W.grownBy w1 (z.q.map (·.block))) {ts' : List Tox} (ht : TRow w1 base z.q z.m z.d ts') :
    PRow w1 base (some ⟨b, o, none⟩) n c (zs.set K ⟨{ z.x with ts := ts' }, z.q, z.m, z.d⟩) := by
  have hl := h.len
  have hKl : K < zs.length := by omega
  have hzk : zs[K] = z := by rw [← hz, getD_at zs noRP hKl]
  obtain ⟨b', o', cur, e', _, hh, _⟩ := h.row.som _ rfl
  cases e'
  have htK := h.tox _ (List.getElem_mem hKl)
  rw [hzk] at htK
  have hb1 : w1.heap[b]? = W.heap[b]? := hg.block b (gc.blk_lt hh) fun e => by
    cases hq : z.q with
    | none => rw [hq] at e; cases e
    | some a => rw [hq] at e; exact orow_ne htK (by decide) hh a hq (by have e : some b = some a.block := e; injection e with e; exact e.symm)
  refine ⟨?_, fun y hy => ?_⟩
  · have e : flatP (zs.set K ⟨{ z.x with ts := ts' }, z.q, z.m, z.d⟩) = flatP zs := by
      unfold flatP
      rw [List.flatMap_def, List.flatMap_def, List.map_set]
      congr 1
      have : (⟨{ z.x with ts := ts' }, z.q, z.m, z.d⟩ : RP).cells = (zs.map RP.cells)[K]'(by rw [List.length_map]; exact hKl) := by rw [List.getElem_map, hzk]; rfl
      rw [this]
      exact List.set_getElem_self _
    rw [e]
    exact h.row.keep fun a ha => by cases ha; exact hb1
  · obtain ⟨i, hi, rfl⟩ := List.getElem_of_mem hy
    rw [List.length_set] at hi
    rw [List.getElem_set]
    split
    · exact ht
    · rename_i hne
      have hti := h.tox _ (List.getElem_mem hi)
      refine gc.ORow.keep hti fun a ha => hg.block _ (gc.ORow.lt hti a ha).2 fun e => ?_
      cases hq : z.q with
      | none => rw [hq] at e; cases e
      | some x =>
        rw [hq] at e
        have e : some a.block = some x.block := e
        injection e with e
        exact dis_at hd hi hKl (Ne.symm hne) a x ha (by rw [hzk]; exact hq) e
theorem TRow.cut {w' : World} {b2 o2 m d T : Nat} {ts : List Tox} (h : gc.ORow w' base TT 6 (some ⟨b2, o2, none⟩) (m - 1) d ((flatT ts).take (T * 6) ++ (flatT ts).drop ((T + 1) * 6))) : TRow w' base (some ⟨b2, o2, none⟩) (m - 1) d (ts.take T ++ ts.drop (T + 1)) := by
  unfold TRow
  unfold flatT at h ⊢
  rw [List.flatMap_append, ← flat_take tc_len, ← flat_drop tc_len]
  exact h
theorem TRow.at {w : World} {m d : Nat} {q : Option Addr} {l : List Tox} (h : TRow w base q m d l) (hm : 0 < m) : ∃ b2 o2 cur, q = some ⟨b2, o2, none⟩ ∧ w.heap[b2]? = some (.cells cur TT (0, 0)) := by
  cases hq : q with
  | none => subst hq; have := gc.ORow.non h rfl; have := gc.ORow.cap h; omega
  | some a =>
    obtain ⟨b2, o2, cur, rfl, _, hh, _⟩ := gc.ORow.som h a hq
    exact ⟨b2, o2, cur, rfl, hh⟩
set_option maxRecDepth 100000 in
set_option maxHeartbeats 8000000 in
theorem cloDrop_any (h : PRow W base (some ⟨b, o, none⟩) n c zs) (hd : Dis zs) (hK : K < n) (z : RP) (hz : zs.getD K noRP = z) (hbase : base ≤ W.heap.size) (O : NOp) (h4 : O.kind = 4) (hm : z.x.ts.length ≤ 8) (hg : W.cell? ⟨g, 0, none⟩ = some (.string O.x)) :
    Calls Tryz.prog 48 #[.pointer (some ⟨b, o + K * 4, none⟩), ptr g] W (CloOut base b o n c K zs { z.x with ts := (Nm.toxL z.x.ts O).1 } (Nm.toxL z.x.ts O).2 W) := by
  have hl := h.len
  have hzk : zs[K]'(by omega) = z := by rw [← hz, getD_at zs noRP (by omega)]
  have HZK := Lib.hid (⟨hz, fun (hh : K < zs.length) => (show zs[K] = z from hzk)⟩ : zs.getD K noRP = z ∧ ∀ hh : K < zs.length, zs[K] = z)
  have HSA := Lib.hid (fun W' (hb : Below W.heap.size W W') er => (show CloOut base b o n c K zs z.x er W (.returned (.int .i64 er)) W' from clo_same h hd hK hbase hb (by rw [hz])))
  have hN : Nm.toxN O = O.x := if_pos h4
  obtain ⟨X, hX⟩ : ∃ X, Nm.toxL z.x.ts O = X := ⟨_, rfl⟩
  rw [hX]
  unfold Nm.toxL at hX
  dsimp only at hX
  rw [hN, if_neg (fun e => e.1 h4), if_neg (by omega)] at hX
  obtain ⟨b', o', e', hc⟩ := h.cells (by omega)
  cases e'
  have c3 := (hc K hK).2.2.2
  rw [hz, ← Nat.add_assoc] at c3
  have ht := h.tox _ (h.mem hK)
  rw [hz] at ht
  have hml := ht.len
  rw [hml] at hX
  have hx := hX
  have hm8 : z.m ≤ 8 := by rw [← hml]; exact hm
  have HW := Lib.hid (fun W' (hW : Hid (Below W.heap.size W W')) => whereT_any _ _ z.d z.x.ts O.x W' hml (by omega) (toxs_on ht.tox hW.out))
  have HQ := Lib.hid (show ∀ W', Below W.heap.size W W' → W'.cell? ⟨b, o + K * 4 + 3, none⟩ = some (.slice z.q z.m z.d) ∧ W'.cell? ⟨g, 0, none⟩ = some (.string O.x) ∧ Hid (Below W.heap.size W W') from fun W' hW => ⟨(hW.cell (World.block_lt_of_cell? W _ c3)).trans c3, (hW.cell (World.block_lt_of_cell? W _ hg)).trans hg, Lib.hid hW⟩)
  have HQ2 := Lib.hid (show ∀ W' W'', Hid (Below W.heap.size W W') → Below W'.heap.size W' W'' → W''.cell? ⟨b, o + K * 4 + 3, none⟩ = some (.slice z.q z.m z.d) ∧ W''.cell? ⟨g, 0, none⟩ = some (.string O.x) ∧ Hid (Below W.heap.size W W'') from fun W' W'' h1 h2 => HQ.out W'' (seqB h1.out h2))
  have HH := Lib.hid h
  have HD := Lib.hid hd
  have HTT := Lib.hid ht
  have HL := Lib.hid hl
  have HML := Lib.hid hml
  generalize hmm : z.m = m at *
  have HMM := Lib.hid hmm
  clear h hd hX hN hc ht hml hm hg hz hzk hl hmm c3
  by_cases hf : Nm.fT z.x.ts O.x < m
  · rw [if_neg (Decidable.not_not.2 hf), if_pos h4] at hx
    subst hx
    have hZ : orNone (Nm.fT z.x.ts O.x) m = (Nm.fT z.x.ts O.x : Int) := if_pos hf
    rw [hZ] at HW
    generalize Nm.fT z.x.ts O.x = T at *
    have d1 : decide ((T : Int) < 0) = false := decide_eq_false (by omega)
    have d2 : ¬ ((T : Int) < 0) := by omega
    have hiw : IntKind.i64.wrap ((T : Int) + 1) = (T : Int) + 1 := wrapN_id (by omega) (by omega)
    clear hZ
    go_enter Tryz.func48, Tryz.ntmps48
    go_wp2_with fail
    go_region_held (fun W' => W'.cell? ⟨b, o + K * 4 + 3, none⟩ = some (.slice z.q m z.d) ∧ W'.cell? ⟨g, 0, none⟩ = some (.string O.x) ∧ Hid (Below W.heap.size W W'))
      (first
        | exact HQ.out _ (Below.refl _ _).drew
        | with_reducible assumption)
      (first
        | (go_at_call 41; go_split_ands; (with_reducible refine Calls.mono (HW.out _ (by assumption)) ?_); rintro e w' ⟨rfl, hb⟩; (have hS := HQ2.out _ _ (by assumption) hb); clear hb))
    have HB2 := Lib.hid (show Below W.heap.size W w' from hS.2.2.out)
    have c3 := hS.1
    clear hS HQ HQ2 HW
    have hr2 := HH.out.on HB2.out
    have ht2 : TRow w' base z.q m z.d z.x.ts := gc.ORow.on HTT.out HB2.out
    obtain ⟨b2, o2, cur2, hq2, hh2⟩ := ht2.at (by omega)
    have ht2' := ht2
    rw [hq2] at ht2' c3
    have HDL := Lib.hid (delT_any ht2' hf (flatT_one z.x.ts))
    have HFN := Lib.hid (show ∀ w3, w'.grownBy w3 (some b2) → gc.ORow w3 base TT 6 (some ⟨b2, o2, none⟩) (m - 1) z.d ((flatT z.x.ts).take (T * 6) ++ (flatT z.x.ts).drop ((T + 1) * 6)) → (w3.frozen? ⟨b, o + K * 4 + 3, none⟩ = false ∧ ∃ v, w3.cell? ⟨b, o + K * 4 + 3, none⟩ = some v) ∧ CloOut base b o n c K zs { z.x with ts := z.x.ts.take T ++ z.x.ts.drop (T + 1) } 0 W (.returned (.int .i64 0)) (w3.setCell ⟨b, o + K * 4 + 3, none⟩ (.slice (some ⟨b2, o2, none⟩) (m - 1) z.d)) from fun w3 hg hrow => by
      have hbs : base ≤ w'.heap.size := Nat.le_trans hbase HB2.out.size
      have hgq : w'.grownBy w3 ((zs.getD K noRP).q.map (·.block)) := by rw [HZK.out.1, hq2]; exact hg
      have hre := PRow.retox hr2 HD.out hK hgq (TRow.cut hrow)
      rw [HZK.out.1] at hre
      have hrb := retox_below hr2 hK hbs hgq (o + (K * 4 + 3)) (.slice (some ⟨b2, o2, none⟩) (m - 1) z.d)
      obtain ⟨bb, oo, cur, e', hb0, hh, _⟩ := hr2.row.som _ rfl
      cases e'
      have hb3 : w3.heap[b]? = some (.cells cur TP (0, 0)) := (hg.block b (gc.blk_lt hh) fun e => by injection e with e; exact orow_ne ht2 (by decide) hh _ hq2 e.symm).trans hh
      refine ⟨⟨gc.frozen_at hb3, ?_⟩, ?_⟩
      · obtain ⟨b', o', e', hc⟩ := hr2.cells (by omega)
        cases e'
        have hc3 := (hc K hK).2.2.2
        rw [← Nat.add_assoc] at hc3
        simp only [World.cell?, hh] at hc3
        simp only [World.cell?, hb3]
        exact ⟨_, hc3⟩
      · rw [Nat.add_assoc]
        refine ⟨rfl, _, rfl, hre, ?_, (HB2.out.mono hbase).trans hrb⟩
        refine dis_set HD.out (by rw [HL.out]; exact hK) fun a' ha => Or.inl ⟨a', ?_, rfl⟩
        rw [HZK.out.2 (by rw [HL.out]; exact hK), hq2]
        exact ha)
    clear hr2 ht2 ht2' hh2
    go_wp2_with fail
    refine HDL.out.mono ?_
    rintro e w3 ⟨rfl, hrow, hgr⟩
    obtain ⟨⟨f3, v3, x3⟩, hfin⟩ := HFN.out w3 hgr hrow
    have HE := Lib.hid hfin
    clear hrow hgr HFN hfin HDL c3
    go_wp2_with fail
    go_ret
    exact HE.out
  · rw [if_pos hf] at hx
    subst hx
    have hZ : orNone (Nm.fT z.x.ts O.x) m = -1 := if_neg hf
    rw [hZ] at HW
    clear hZ hf
    go_enter Tryz.func48, Tryz.ntmps48
    go_wp2_with fail
    go_region_held (fun W' => W'.cell? ⟨b, o + K * 4 + 3, none⟩ = some (.slice z.q m z.d) ∧ W'.cell? ⟨g, 0, none⟩ = some (.string O.x) ∧ Hid (Below W.heap.size W W'))
      (first
        | exact HQ.out _ (Below.refl _ _).drew
        | with_reducible assumption)
      (first
        | (go_at_call 41; go_split_ands; (with_reducible refine Calls.mono (HW.out _ (by assumption)) ?_); rintro e w' ⟨rfl, hb⟩; (have hS := HQ2.out _ _ (by assumption) hb); clear hb))
    have HB2 := Lib.hid (show Below W.heap.size W w' from hS.2.2.out)
    clear hS HQ HQ2 HW
    go_wp2_with fail
    go_ret
    exact HSA.out _ HB2.out _
set_option maxRecDepth 100000 in
set_option maxHeartbeats 8000000 in
theorem cloSet_any (h : PRow W base (some ⟨b, o, none⟩) n c zs) (hd : Dis zs) (hK : K < n) (z : RP) (hz : zs.getD K noRP = z) (hbase : base ≤ W.heap.size) (O : NOp) (h5 : O.kind = 5) (hs : O.t.s.size ≤ maxLen) (hm : z.x.ts.length ≤ 8) (hg : TBox W g O.t) :
    Calls Tryz.prog 63 #[.pointer (some ⟨b, o + K * 4, none⟩), ptr g] W (CloOut base b o n c K zs { z.x with ts := (Nm.toxL z.x.ts O).1 } (Nm.toxL z.x.ts O).2 W) := by
  have hl := h.len
  have hzk : zs[K]'(by omega) = z := by rw [← hz, getD_at zs noRP (by omega)]
  have HZK := Lib.hid (⟨hz, fun (hh : K < zs.length) => (show zs[K] = z from hzk)⟩ : zs.getD K noRP = z ∧ ∀ hh : K < zs.length, zs[K] = z)
  have HSA := Lib.hid (fun W' (hb : Below W.heap.size W W') er => (show CloOut base b o n c K zs z.x er W (.returned (.int .i64 er)) W' from clo_same h hd hK hbase hb (by rw [hz])))
  have HC := Lib.hid (gx.check_any O.t.s hs O.t.k O.t.up O.t.o O.t.a O.t.b W)
  unfold gx.Chk at HC
  have hN : Nm.toxN O = O.t.s := if_neg (by omega)
  obtain ⟨c0, c1, c2, c3, c4, c5⟩ := hg.cells
  obtain ⟨X, hX⟩ : ∃ X, Nm.toxL z.x.ts O = X := ⟨_, rfl⟩
  rw [hX]
  unfold Nm.toxL at hX
  dsimp only at hX
  have ht := h.tox _ (h.mem hK)
  rw [hz] at ht
  have hml := ht.len
  rw [hN, if_neg (show ¬ O.kind = 3 by omega), hml] at hX
  have HX := Lib.hid hX
  have HG := Lib.hid hg
  have HH := Lib.hid h
  have HD := Lib.hid hd
  have HTT := Lib.hid ht
  have HML := Lib.hid hml
  have hm8 : z.m ≤ 8 := by rw [← hml]; exact hm
  have hchk : O.t.chk = gx.checkB O.t.s O.t.k O.t.o O.t.a O.t.b := rfl
  rw [hchk] at HX
  generalize gx.checkB O.t.s O.t.k O.t.o O.t.a O.t.b = E at *
  have h4 : O.kind ≠ 4 := by omega
  have h4' : ¬ O.kind = 4 := h4
  have HL := Lib.hid hl
  clear h hd hX hN hchk hz hzk hl ht hml
  go_enter Tryz.func63, Tryz.ntmps63
  go_wp2_with fail
  refine HC.out.mono ?_
  rintro e w1 ⟨rfl, hb1⟩
  have HB1 := Lib.hid hb1
  have HH1 := Lib.hid (HH.out.on hb1)
  have HG1 := Lib.hid (HG.out.on hb1)
  have HT1 := Lib.hid (show TRow w1 base z.q z.m z.d z.x.ts from gc.ORow.on HTT.out hb1)
  clear hb1 HC c0 c1 c2 c3 c4 c5
  by_cases hE : E = 0
  · subst hE
    have hx := HX.out
    rw [if_neg (by simp)] at hx
    clear HX
    obtain ⟨b', o', e', hc⟩ := HH1.out.cells (by omega)
    cases e'
    have c3 := (hc K hK).2.2.2
    rw [HZK.out.1] at c3
    rw [← Nat.add_assoc] at c3
    have HW := Lib.hid (fun W' (hW : Hid (Below w1.heap.size w1 W')) => whereT_any _ _ z.d z.x.ts O.t.s W' HML.out (by omega) (toxs_on HT1.out.tox hW.out))
    obtain ⟨d0, d1, d2, d3, d4, d5⟩ := HG1.out.cells
    have HQ := Lib.hid (show ∀ W', Below w1.heap.size w1 W' → W'.cell? ⟨b, o + K * 4 + 3, none⟩ = some (.slice z.q z.m z.d) ∧ W'.cell? ⟨g, 0, none⟩ = some (.string O.t.s) ∧ Hid (Below w1.heap.size w1 W') from fun W' hW => ⟨(hW.cell (World.block_lt_of_cell? w1 _ c3)).trans c3, (hW.cell (World.block_lt_of_cell? w1 _ d0)).trans d0, Lib.hid hW⟩)
    have HQ2 := Lib.hid (show ∀ W' W'', Hid (Below w1.heap.size w1 W') → Below W'.heap.size W' W'' → W''.cell? ⟨b, o + K * 4 + 3, none⟩ = some (.slice z.q z.m z.d) ∧ W''.cell? ⟨g, 0, none⟩ = some (.string O.t.s) ∧ Hid (Below w1.heap.size w1 W'') from fun W' W'' h1 h2 => HQ.out W'' (seqB h1.out h2))
    clear hc hm hg
    generalize hmm : z.m = m at *
    have HMM := Lib.hid hmm
    clear hmm
    by_cases hf : Nm.fT z.x.ts O.t.s < m
    · rw [if_neg (Decidable.not_not.2 hf), if_neg h4'] at hx
      have hZ : orNone (Nm.fT z.x.ts O.t.s) m = (Nm.fT z.x.ts O.t.s : Int) := if_pos hf
      rw [hZ] at HW
      generalize Nm.fT z.x.ts O.t.s = T at *
      have e1 : decide ((T : Int) < 0) = false := decide_eq_false (by omega)
      have e2 : ¬ ((T : Int) < 0) := by omega
      have e3 : (T : Int) < (m : Int) := by omega
      clear hZ c3
      go_wp2_with fail
      go_region_held (fun W' => W'.cell? ⟨b, o + K * 4 + 3, none⟩ = some (.slice z.q m z.d) ∧ W'.cell? ⟨g, 0, none⟩ = some (.string O.t.s) ∧ Hid (Below w1.heap.size w1 W'))
        (first
          | exact HQ.out _ (Below.refl _ _).drew
          | with_reducible assumption)
        (first
          | (go_at_call 41; go_split_ands; (with_reducible refine Calls.mono (HW.out _ (by assumption)) ?_); rintro e w' ⟨rfl, hb⟩; (have hS := HQ2.out _ _ (by assumption) hb); clear hb))
      have HBW := Lib.hid (show Below w1.heap.size w1 w' from hS.2.2.out)
      have HB2 := Lib.hid (seqB HB1.out HBW.out)
      have c3 := hS.1
      clear hS HQ HQ2 HW
      have HH2 := Lib.hid (HH1.out.on HBW.out)
      have HT2 := Lib.hid (show TRow w' base z.q m z.d z.x.ts from gc.ORow.on HT1.out HBW.out)
      have HG2 := Lib.hid (HG1.out.on HBW.out)
      clear HH1 HT1 HG1 d0 d1 d2 d3 d4 d5
      obtain ⟨b2, o2, cur2, hq2, hh2⟩ := HT2.out.at (by omega)
      rw [hq2] at c3
      obtain ⟨b', o', e', hc⟩ := HT2.out.tox (by omega)
      rw [hq2] at e'
      cases e'
      obtain ⟨y0, y1, y2, y3, y4, y5⟩ := hc T hf
      rw [← Nat.add_assoc] at y1 y2 y3 y4 y5
      obtain ⟨u, hu⟩ : ∃ u, z.x.ts.getD T noTox = u := ⟨_, rfl⟩
      rw [hu] at hx y0 y1 y2 y3 y4 y5
      obtain ⟨d0, d1, d2, d3, d4, d5⟩ := HG2.out.cells
      -- the box of what was there
      have hal : Below w'.heap.size w' (w'.alloc (.cells #[.string u.s, .int .i64 u.k, .bool u.up, .int .i64 u.o, .int .i64 u.a, .int .i64 u.b] TT)) := (Below.refl _ _).alloc (Nat.le_refl _) _
      have hnew := heap_alloc_new w' (.cells #[.string u.s, .int .i64 u.k, .bool u.up, .int .i64 u.o, .int .i64 u.a, .int .i64 u.b] TT)
      obtain ⟨w5, hw5⟩ : ∃ w5, w'.alloc (.cells #[.string u.s, .int .i64 u.k, .bool u.up, .int .i64 u.o, .int .i64 u.a, .int .i64 u.b] TT) = w5 := ⟨_, rfl⟩
      rw [hw5] at hal hnew
      have HBL := Lib.hid hal
      have k3 := (hal.cell (World.block_lt_of_cell? w' _ c3)).trans c3
      have kd0 := (hal.cell (World.block_lt_of_cell? w' _ d0)).trans d0
      have kd1 := (hal.cell (World.block_lt_of_cell? w' _ d1)).trans d1
      have kd2 := (hal.cell (World.block_lt_of_cell? w' _ d2)).trans d2
      have kd3 := (hal.cell (World.block_lt_of_cell? w' _ d3)).trans d3
      have kd4 := (hal.cell (World.block_lt_of_cell? w' _ d4)).trans d4
      have kd5 := (hal.cell (World.block_lt_of_cell? w' _ d5)).trans d5
      have HW5 := Lib.hid hw5
      have HQQ := Lib.hid hq2
      by_cases hkk : u.k = O.t.k
      · have dk : (u.k != O.t.k) = false := by simpa using hkk
        have dk2 : decide (u.k = O.t.k) = true := decide_eq_true hkk
        by_cases hku : u.up = O.t.up
        · rw [if_neg (by rw [hkk, hku]; simp)] at hx
          subst hx
          have du : (u.up != O.t.up) = false := by simpa using hku
          have du2 : decide (u.up = O.t.up) = true := decide_eq_true hku
          have du3 : (u.up == O.t.up) = true := by simpa using hku
          have du4 : (!(u.up == O.t.up)) = false := by rw [du3]; rfl
          have j0 := (hal.cell (World.block_lt_of_cell? w' _ y0)).trans y0
          have j1 := (hal.cell (World.block_lt_of_cell? w' _ y1)).trans y1
          have j2 := (hal.cell (World.block_lt_of_cell? w' _ y2)).trans y2
          have j3 := (hal.cell (World.block_lt_of_cell? w' _ y3)).trans y3
          have j4 := (hal.cell (World.block_lt_of_cell? w' _ y4)).trans y4
          have j5 := (hal.cell (World.block_lt_of_cell? w' _ y5)).trans y5
          have hh5 : w5.heap[b2]? = some (.cells cur2 TT (0, 0)) := (hal.block _ (gc.blk_lt hh2)).trans hh2
          have f0 : w5.frozen? ⟨b2, o2 + T * 6, none⟩ = false := gc.frozen_at hh5
          have f1 : w5.frozen? ⟨b2, o2 + T * 6 + 1, none⟩ = false := gc.frozen_at hh5
          have f2 : w5.frozen? ⟨b2, o2 + T * 6 + 2, none⟩ = false := gc.frozen_at hh5
          have f3 : w5.frozen? ⟨b2, o2 + T * 6 + 3, none⟩ = false := gc.frozen_at hh5
          have f4 : w5.frozen? ⟨b2, o2 + T * 6 + 4, none⟩ = false := gc.frozen_at hh5
          have f5 : w5.frozen? ⟨b2, o2 + T * 6 + 5, none⟩ = false := gc.frozen_at hh5
          have HFN := Lib.hid (show CloOut base b o n c K zs { z.x with ts := z.x.ts.set T O.t } 0 W (.returned (.int .i64 0)) (w5.setCells b2 (o2 + T * 6) O.t.cells).drew from by
            have hr5 := HH2.out.on hal
            have ht5 : TRow w5 base (some ⟨b2, o2, none⟩) m z.d z.x.ts := by have := gc.ORow.on HT2.out hal; rw [hq2] at this; exact this
            have hg5 := gc.setCells_grown w5 b2 (o2 + T * 6) O.t.cells
            have hTl : T < z.x.ts.length := by rw [HML.out]; exact hf
            have hnew5 : TRow (w5.setCells b2 (o2 + T * 6) O.t.cells) base (some ⟨b2, o2, none⟩) m z.d (z.x.ts.set T O.t) := by
              unfold TRow flatT
              rw [flat_set tc_len _ T hTl]
              exact orow_run ht5 (by rw [tc_len]; omega)
            have hps := PRow.settox hr5 HD.out hK HZK.out.1 (w1 := w5.setCells b2 (o2 + T * 6) O.t.cells) (by rw [HQQ.out]; exact hg5) (ts' := z.x.ts.set T O.t) (by rw [HQQ.out, HMM.out]; exact hnew5)
            have hb0 := (gc.ORow.lt ht5 _ rfl).1
            refine ⟨rfl, _, rfl, hps.on (Below.refl _ _).drew, ?_, ?_⟩
            · refine dis_set HD.out (by rw [HL.out]; exact hK) fun a' ha => Or.inl ⟨a', ?_, rfl⟩
              rw [HZK.out.2 (by rw [HL.out]; exact hK)]
              exact ha
            · have hbw : Below base W w5 := (HB2.out.mono hbase).trans (hal.mono (Nat.le_trans hbase HB2.out.size))
              have hb5 : Below base w5 (w5.setCells b2 (o2 + T * 6) O.t.cells) := ⟨hg5.os, hg5.tape, hg5.output, hg5.size, fun k hk => hg5.block k (Nat.lt_of_lt_of_le hk (Nat.le_trans hbase hbw.size)) fun e => by injection e with e; have hb0 : base ≤ b2 := hb0; omega⟩
              exact (hbw.trans hb5).drew)
          clear hal hnew hh2 hh5 hku hkk hc HH2 HT2 hw5
          rw [← HW5.out] at k3 kd0 kd1 kd2 kd3 kd4 kd5 j0 j1 j2 j3 j4 j5 f0 f1 f2 f3 f4 f5
          go_wp2_with fail
          go_region
          all_goals
            go_wp2_with fail
            go_ret
            rw [HW5.out]
            exact HFN.out
        · rw [if_pos (Or.inr hku)] at hx
          subst hx
          have du : (u.up != O.t.up) = true := by simpa using hku
          have du2 : decide (u.up = O.t.up) = false := decide_eq_false hku
          have du3 : (u.up == O.t.up) = false := by simpa using hku
          have du4 : (!(u.up == O.t.up)) = true := by rw [du3]; rfl
          clear hnew hh2 hku hkk hc HH2 HT2 hw5 hal
          rw [← HW5.out] at k3 kd0 kd1 kd2 kd3 kd4 kd5
          go_wp2_with fail
          go_ret
          rw [HW5.out]
          exact HSA.out _ (seqB HB2.out HBL.out) _
      · rw [if_pos (Or.inl hkk)] at hx
        subst hx
        have dk : (u.k != O.t.k) = true := by simpa using hkk
        have dk2 : decide (u.k = O.t.k) = false := decide_eq_false hkk
        clear hnew hh2 hkk hc HH2 HT2 hw5 hal
        rw [← HW5.out] at k3 kd0 kd1 kd2 kd3 kd4 kd5
        go_wp2_with fail
        go_ret
        rw [HW5.out]
        exact HSA.out _ (seqB HB2.out HBL.out) _
    · rw [if_pos hf] at hx
      subst hx
      have hZ : orNone (Nm.fT z.x.ts O.t.s) m = -1 := if_neg hf
      rw [hZ] at HW
      clear hZ hf c3
      go_wp2_with fail
      go_region_held (fun W' => W'.cell? ⟨b, o + K * 4 + 3, none⟩ = some (.slice z.q m z.d) ∧ W'.cell? ⟨g, 0, none⟩ = some (.string O.t.s) ∧ Hid (Below w1.heap.size w1 W'))
        (first
          | exact HQ.out _ (Below.refl _ _).drew
          | with_reducible assumption)
        (first
          | (go_at_call 41; go_split_ands; (with_reducible refine Calls.mono (HW.out _ (by assumption)) ?_); rintro e w' ⟨rfl, hb⟩; (have hS := HQ2.out _ _ (by assumption) hb); clear hb))
      have HB2 := Lib.hid (seqB HB1.out (show Below w1.heap.size w1 w' from hS.2.2.out))
      clear hS HQ HQ2 HW
      go_wp2_with fail
      go_ret
      exact HSA.out _ HB2.out _
  · have hx := HX.out
    rw [if_pos ⟨h4, hE⟩] at hx
    subst hx
    have d4 : (E != 0) = true := by simpa using hE
    have d5 : decide (E = 0) = false := by simpa using hE
    clear HX hE
    go_wp2_with fail
    go_ret
    exact HSA.out _ HB1.out _
end
end Go.Proofs.YtmghkcjljnlocaaGreatDoor

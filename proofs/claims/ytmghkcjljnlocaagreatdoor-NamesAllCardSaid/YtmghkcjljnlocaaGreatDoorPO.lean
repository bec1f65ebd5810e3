/-
  Contracts: the closures that change a proxy: Switch's, AddToxic's. Conditions: as each states.
-/
import Derived.Test.YtmghkcjljnlocaaGreatDoorPN
namespace Go.Proofs.YtmghkcjljnlocaaGreatDoor
open Go.RowKit
theorem step_append_eq {P : Program} {ops : Array Oper} {o : Oper} {a : Act} {w : World} {K : Act → World → Prop} {Q : Exit → Act → World → Prop} {E : Prop} (hg : o.guard = none) (d s : Operand) (t t' : TypeId)
    (hop : o.op = .call { callee := .builtin .append, args := #[d, s], argTypes := #[t, t'] }) (x y : Value) (hd : a.eval d = x) (hs : a.eval s = y) {v' : Value} {w' : World} (hr : ∀ ty, (Builtin.append_ #[t, t'] ty #[x, y]).run P w = .ok v' w') (hK : K (a.put o.dst v') w') :
    if Region.wanted o (yielded ops a.tmps) = true then Oper.wp P o a w K Q else E := by
  rw [if_pos (show Region.wanted o (yielded ops a.tmps) = true by simp [Region.wanted, hg])]
  unfold Oper.wp
  have h := hr o.type
  simp [execOp, hop, resolve, invoke, builtin, hd, hs, h, Result.andThen]
  exact hK
/-- What a change of the K-th proxy tells. -/
def CloOut (base b o n c K : Nat) (zs : List RP) (x' : Prx) (er : Int) (W : World) (e : Ending) (W' : World) : Prop := e = .returned (.int .i64 er) ∧ ∃ z', z'.x = x' ∧ PRow W' base (some ⟨b, o, none⟩) n c (zs.set K z') ∧ Dis (zs.set K z') ∧ Below base W W'
theorem set_getD {α : Type} (l : List α) (z : α) (k : Nat) (h : k < l.length) : l.set k (l.getD k z) = l := by
  rw [getD_at l z h]
  exact List.set_getElem_self h
section
variable {W : World} {base b o n c K g : Nat} {zs : List RP}
theorem clo_same (h : PRow W base (some ⟨b, o, none⟩) n c zs) (hd : Dis zs) (hK : K < n) {W' : World} (hbase : base ≤ W.heap.size) (hb : Below W.heap.size W W') {x' : Prx} {er : Int} (hx : x' = (zs.getD K noRP).x) : CloOut base b o n c K zs x' er W (.returned (.int .i64 er)) W' := by
  have hl := h.len
  refine ⟨rfl, zs.getD K noRP, hx.symm, ?_, ?_, hb.mono hbase⟩
  · rw [set_getD _ _ _ (by omega)]
    exact h.on hb
  · rw [set_getD _ _ _ (by omega)]
    exact hd
set_option maxRecDepth 100000 in
set_option maxHeartbeats 4000000 in
theorem cloSw_any (h : PRow W base (some ⟨b, o, none⟩) n c zs) (hd : Dis zs) (hK : K < n) (z : RP) (hz : zs.getD K noRP = z) (on : Bool) (hg : W.cell? ⟨g, 0, none⟩ = some (.bool on)) :
    Calls Tryz.prog 59 #[.pointer (some ⟨b, o + K * 4, none⟩), ptr g] W (CloOut base b o n c K zs { z.x with on := on } 0 W) := by
  have hl := h.len
  obtain ⟨b', o', e', hc⟩ := h.cells (by omega)
  cases e'
  obtain ⟨b', o', cur, e', hb0, hh, _⟩ := h.row.som _ rfl
  cases e'
  obtain ⟨c0, c1, c2, c3⟩ := hc K hK
  rw [hz] at c1
  rw [← Nat.add_assoc] at c1
  have hzk : zs[K]'(by omega) = z := by rw [← hz, getD_at zs noRP (by omega)]
  have f1 : W.frozen? ⟨b, o + K * 4 + 1, none⟩ = false := gc.frozen_at hh
  have HF := Lib.hid (show CloOut base b o n c K zs { z.x with on := on } 0 W (.returned (.int .i64 0)) (W.setCell ⟨b, o + K * 4 + 1, none⟩ (.bool on)) from by
    refine ⟨rfl, ⟨{ z.x with on := on }, z.q, z.m, z.d⟩, rfl, ?_, ?_, (Below.refl _ _).setCell (p := ⟨b, o + K * 4 + 1, none⟩) hb0 _⟩
    · rw [Nat.add_assoc]
      exact h.set1 hK (by decide) _ _ (by rw [hz]; rfl) (show TRow W base z.q z.m z.d z.x.ts from by have := h.tox _ (h.mem hK); rwa [hz] at this)
    · refine dis_set hd (by omega) fun a' ha => Or.inl ⟨a', ?_, rfl⟩
      rw [hzk]
      exact ha)
  clear h hd hc hh c0 c2 c3 hb0 hzk hz
  go_enter Tryz.func59, Tryz.ntmps59
  go_wp2_with fail
  go_ret
  exact HF.out
/-- One more toxic. -/
theorem TRow.app {w : World} {base m d : Nat} {q : Option Addr} {l : List Tox} (h : TRow w base q m d l) (hbase : base ≤ w.heap.size) (hn : m ≤ 1000) {a : Addr} {e : Nat} (t : Tox) (hc : ∀ j u, t.cells[j]? = some u → w.cell? (a.add j) = some u) :
    ∃ q' d' w', (∀ ty, (Builtin.append_ #[35, 35] ty #[.slice q m d, .slice (some a) 1 e]).run Tryz.prog w = .ok (.slice q' (m + 1) d') w') ∧ TRow w' base q' (m + 1) d' (l ++ [t]) ∧ w.grownBy w' (q.map (·.block)) ∧ ∀ x, q' = some x → q.map (·.block) = some x.block ∨ w.heap.size ≤ x.block := by
  obtain ⟨i0, hi0, hz0, hz1, hz2⟩ := info_parts infoT
  obtain ⟨q', d', w', r1, r2, r3, r4⟩ := gc.app_row h hbase (a := a) (m := 1) (d := e) (news := t.cells) Tryz.underlying35 hi0 hz0 hz1 hz2 rfl (by decide) (by rw [tc_len]) hc (fun u hu => flatT_one [t] u (by unfold flatT; simpa using hu)) (by unfold maxLen; omega) (by omega)
  refine ⟨q', d', w', r1, ?_, r3, r4⟩
  unfold TRow
  unfold flatT at r2 ⊢
  rw [List.flatMap_append, List.flatMap_cons, List.flatMap_nil, List.append_nil]
  exact r2
/-- A toxic in a block of its own. -/
def TBox (W : World) (g : Nat) (t : Tox) : Prop := W.heap[g]? = some (.cells #[.string t.s, .int .i64 t.k, .bool t.up, .int .i64 t.o, .int .i64 t.a, .int .i64 t.b] TT (0, 0))
theorem TBox.cells {g : Nat} {t : Tox} (h : TBox W g t) : W.cell? ⟨g, 0, none⟩ = some (.string t.s) ∧ W.cell? ⟨g, 1, none⟩ = some (.int .i64 t.k) ∧ W.cell? ⟨g, 2, none⟩ = some (.bool t.up) ∧ W.cell? ⟨g, 3, none⟩ = some (.int .i64 t.o) ∧ W.cell? ⟨g, 4, none⟩ = some (.int .i64 t.a) ∧ W.cell? ⟨g, 5, none⟩ = some (.int .i64 t.b) :=
  ⟨cell_of_row _ _ 0 _ _ _ h, cell_of_row _ _ 1 _ _ _ h, cell_of_row _ _ 2 _ _ _ h, cell_of_row _ _ 3 _ _ _ h, cell_of_row _ _ 4 _ _ _ h, cell_of_row _ _ 5 _ _ _ h⟩
theorem TBox.on {W' : World} {g : Nat} {t : Tox} (h : TBox W g t) (hb : Below W.heap.size W W') : TBox W' g t := (hb.block _ (gc.blk_lt h)).trans h
set_option maxRecDepth 100000 in
set_option maxHeartbeats 8000000 in
theorem cloAdd_any (h : PRow W base (some ⟨b, o, none⟩) n c zs) (hd : Dis zs) (hK : K < n) (z : RP) (hz : zs.getD K noRP = z) (hbase : base ≤ W.heap.size) (O : NOp) (h3 : O.kind = 3) (hs : O.t.s.size ≤ maxLen) (hm : z.x.ts.length ≤ 8) (hg : TBox W g O.t) :
    Calls Tryz.prog 47 #[.pointer (some ⟨b, o + K * 4, none⟩), ptr g] W (CloOut base b o n c K zs { z.x with ts := (Nm.toxL z.x.ts O).1 } (Nm.toxL z.x.ts O).2 W) := by
  have hl := h.len
  have HC := Lib.hid (gx.check_any O.t.s hs O.t.k O.t.up O.t.o O.t.a O.t.b W)
  unfold gx.Chk at HC
  have hN : Nm.toxN O = O.t.s := if_neg (by omega)
  obtain ⟨c0, c1, c2, c3, c4, c5⟩ := hg.cells
  have HSA := Lib.hid (fun W' (hb : Below W.heap.size W W') er => (show CloOut base b o n c K zs z.x er W (.returned (.int .i64 er)) W' from clo_same h hd hK hbase hb (by rw [hz])))
  have hzk : zs[K]'(by omega) = z := by rw [← hz, getD_at zs noRP (by omega)]
  have HZK := Lib.hid (⟨hz, fun (hh : K < zs.length) => (show zs[K] = z from hzk)⟩ : zs.getD K noRP = z ∧ ∀ hh : K < zs.length, zs[K] = z)
  obtain ⟨X, hX⟩ : ∃ X, Nm.toxL z.x.ts O = X := ⟨_, rfl⟩
  rw [hX]
  unfold Nm.toxL at hX
  dsimp only at hX
  rw [hN, if_pos h3] at hX
  have HX := Lib.hid hX
  have HG := Lib.hid hg
  have HH := Lib.hid h
  have HD := Lib.hid hd
  have hchk : O.t.chk = gx.checkB O.t.s O.t.k O.t.o O.t.a O.t.b := rfl
  rw [hchk] at HX
  generalize gx.checkB O.t.s O.t.k O.t.o O.t.a O.t.b = E at *
  have h4 : O.kind ≠ 4 := by omega
  have HL := Lib.hid hl
  clear h hd hX hN hchk hz hzk hl
  go_enter Tryz.func47, Tryz.ntmps47
  go_wp2_with fail
  refine HC.out.mono ?_
  rintro e w1 ⟨rfl, hb1⟩
  have HB1 := Lib.hid hb1
  have HH1 := Lib.hid (HH.out.on hb1)
  have HG1 := Lib.hid (HG.out.on hb1)
  clear hb1 HC c0 c1 c2 c3 c4 c5
  by_cases hE : E = 0
  · subst hE
    have hx := HX.out
    rw [if_neg (by simp)] at hx
    clear HX
    obtain ⟨b', o', e', hc⟩ := HH1.out.cells (by omega)
    cases e'
    have c3 := (hc K hK).2.2.2
    rw [HZK.out.1] at c3
    rw [← Nat.add_assoc] at c3
    have ht := HH1.out.tox _ (HH1.out.mem hK)
    rw [HZK.out.1] at ht
    have hml := ht.len
    have HW := Lib.hid (fun W' (hW : Hid (Below w1.heap.size w1 W')) => whereT_any _ _ z.d z.x.ts O.t.s W' hml (by omega) (toxs_on ht.tox hW.out))
    have HTT := Lib.hid ht
    have HML := Lib.hid hml
    have hm8 : z.m ≤ 8 := by rw [← hml]; exact hm
    obtain ⟨d0, d1, d2, d3, d4, d5⟩ := HG1.out.cells
    rw [hml] at hx
    have HQ := Lib.hid (show ∀ W', Below w1.heap.size w1 W' → W'.cell? ⟨b, o + K * 4 + 3, none⟩ = some (.slice z.q z.m z.d) ∧ W'.cell? ⟨g, 0, none⟩ = some (.string O.t.s) ∧ Hid (Below w1.heap.size w1 W') from fun W' hW => ⟨(hW.cell (World.block_lt_of_cell? w1 _ c3)).trans c3, (hW.cell (World.block_lt_of_cell? w1 _ d0)).trans d0, Lib.hid hW⟩)
    have HQ2 := Lib.hid (show ∀ W' W'', Hid (Below w1.heap.size w1 W') → Below W'.heap.size W' W'' → W''.cell? ⟨b, o + K * 4 + 3, none⟩ = some (.slice z.q z.m z.d) ∧ W''.cell? ⟨g, 0, none⟩ = some (.string O.t.s) ∧ Hid (Below w1.heap.size w1 W'') from fun W' W'' h1 h2 => HQ.out W'' (seqB h1.out h2))
    clear hc ht hml hm hg
    generalize z.m = m at *
    by_cases hf : Nm.fT z.x.ts O.t.s < m
    · rw [if_pos hf] at hx
      subst hx
      have hZ : orNone (Nm.fT z.x.ts O.t.s) m = (Nm.fT z.x.ts O.t.s : Int) := if_pos hf
      rw [hZ] at HW
      generalize Nm.fT z.x.ts O.t.s = T at *
      have d1 : decide (0 ≤ (T : Int)) = true := decide_eq_true (by omega)
      clear hZ hf c3
      go_wp2_with fail
      go_region_held (fun W' => W'.cell? ⟨b, o + K * 4 + 3, none⟩ = some (.slice z.q m z.d) ∧ W'.cell? ⟨g, 0, none⟩ = some (.string O.t.s) ∧ Hid (Below w1.heap.size w1 W'))
        (first
          | exact HQ.out _ (Below.refl _ _).drew
          | with_reducible assumption)
        (first
          | (go_at_call 41; go_split_ands; (with_reducible refine Calls.mono (HW.out _ (by assumption)) ?_); rintro e w' ⟨rfl, hb⟩; (have hS := HQ2.out _ _ (by assumption) hb); clear hb))
      have HB2 := Lib.hid (seqB HB1.out (show Below w1.heap.size w1 w' from hS.2.2.out))
      clear hS HQ HQ2 HW
      go_wp2_with fail
      go_ret
      exact HSA.out _ HB2.out _
    · rw [if_neg hf] at hx
      have hZ : orNone (Nm.fT z.x.ts O.t.s) m = -1 := if_neg hf
      rw [hZ] at HW
      clear hZ hf c3
      go_wp2_with fail
      go_region_held (fun W' => W'.cell? ⟨b, o + K * 4 + 3, none⟩ = some (.slice z.q m z.d) ∧ W'.cell? ⟨g, 0, none⟩ = some (.string O.t.s) ∧ Hid (Below w1.heap.size w1 W'))
        (first
          | exact HQ.out _ (Below.refl _ _).drew
          | with_reducible assumption)
        (first
          | (go_at_call 41; go_split_ands; (with_reducible refine Calls.mono (HW.out _ (by assumption)) ?_); rintro e w' ⟨rfl, hb⟩; (have hS := HQ2.out _ _ (by assumption) hb); clear hb))
      have HB2 := Lib.hid (seqB HB1.out (show Below w1.heap.size w1 w' from hS.2.2.out))
      have HBW := Lib.hid (show Below w1.heap.size w1 w' from hS.2.2.out)
      have c3 := hS.1
      clear hS HQ2 HW
      by_cases h8 : 8 ≤ m
      · rw [if_pos h8] at hx
        subst hx
        have e1 : decide ((8 : Int) ≤ (m : Int)) = true := decide_eq_true (by omega)
        clear h8 HQ
        go_wp2_with fail
        go_ret
        exact HSA.out _ HB2.out _
      · rw [if_neg h8] at hx
        subst hx
        have e1 : decide ((8 : Int) ≤ (m : Int)) = false := decide_eq_false (by omega)
        obtain ⟨w3, hw3⟩ : ∃ w3, (w'.alloc (.cells #[.string O.t.s, .int .i64 O.t.k, .bool O.t.up, .int .i64 O.t.o, .int .i64 O.t.a, .int .i64 O.t.b] TT)).drew = w3 := ⟨_, rfl⟩
        have hb3 : Below w'.heap.size w' w3 := by rw [← hw3]; exact ((Below.refl _ _).alloc (Nat.le_refl _) _).drew
        have h3n : w3.heap[w'.heap.size]? = some (.cells #[.string O.t.s, .int .i64 O.t.k, .bool O.t.up, .int .i64 O.t.o, .int .i64 O.t.a, .int .i64 O.t.b] TT (0, 0)) := by rw [← hw3]; exact heap_alloc_new w' _
        have hr3 := HH1.out.on (seqB HBW.out hb3)
        have hbs : base ≤ w3.heap.size := Nat.le_trans hbase (Nat.le_trans HB2.out.size hb3.size)
        have ht3 : TRow w3 base z.q m z.d z.x.ts := gc.ORow.on HTT.out (seqB HBW.out hb3)
        obtain ⟨q', d', w4, r1, r2, r3, r4⟩ := ht3.app hbs (by omega) (a := ⟨w'.heap.size, 0, none⟩) (e := 1) O.t (fun j u hj => by
          rw [WideShapes.add_plain]
          simp only [World.cell?, h3n]
          rw [Nat.zero_add]
          simpa [Tox.cells] using hj)
        have hre := PRow.retox hr3 HD.out hK (by rw [HZK.out.1]; exact r3) r2
        rw [HZK.out.1] at hre
        have hrb := retox_below hr3 hK hbs (by rw [HZK.out.1]; exact r3) (o + (K * 4 + 3)) (.slice q' (m + 1) d')
        obtain ⟨bb, oo, cur, e', hb0, hh, _⟩ := hr3.row.som _ rfl
        cases e'
        have hqb : ∀ a, z.q = some a → a.block ≠ b := fun a ha => orow_ne ht3 (by decide) hh a ha
        have hb4 : w4.heap[b]? = some (.cells cur TP (0, 0)) := (r3.block b (gc.blk_lt hh) fun e => by
          cases hq : z.q with
          | none => rw [hq] at e; cases e
          | some a => rw [hq] at e; exact hqb a hq (by have e : some b = some a.block := e; injection e with e; exact e.symm)).trans hh
        obtain ⟨d0, d1, d2, d3, d4, d5⟩ := (HG1.out.on HBW.out).cells
        obtain ⟨y0, y1, y2, y3, y4, y5⟩ := (HG1.out.on (seqB HBW.out hb3)).cells
        have c3' := (hb3.cell (World.block_lt_of_cell? w' _ c3)).trans c3
        rw [← hw3] at y0 y1 y2 y3 y4 y5 c3' r1
        change (w'.alloc _).cell? _ = _ at y0 y1 y2 y3 y4 y5 c3'
        have c4 : (w4.cell? ⟨b, o + K * 4 + 3, none⟩) = some (.slice z.q z.m z.d) := by
          have := (hr3.cells (by omega))
          obtain ⟨b', o', e', hc⟩ := this
          cases e'
          have hc3 := (hc K hK).2.2.2
          rw [HZK.out.1] at hc3
          rw [← Nat.add_assoc] at hc3
          simp only [World.cell?, hh] at hc3
          simp only [World.cell?, hb4]
          exact hc3
        have f4 : w4.frozen? ⟨b, o + K * 4 + 3, none⟩ = false := gc.frozen_at hb4
        have HR := Lib.hid r1
        have HFN := Lib.hid (show CloOut base b o n c K zs { z.x with ts := z.x.ts ++ [O.t] } 0 W (.returned (.int .i64 0)) (w4.setCell ⟨b, o + K * 4 + 3, none⟩ (.slice q' (m + 1) d')) from by
          rw [Nat.add_assoc]
          refine ⟨rfl, _, rfl, hre, ?_, ?_⟩
          · refine dis_set HD.out (by rw [HL.out]; exact hK) fun a' ha => ?_
            rcases r4 a' ha with hq | hq
            · left
              rw [HZK.out.2 (by rw [HL.out]; exact hK)]
              cases hz : z.q with
              | none => rw [hz] at hq; cases hq
              | some x => rw [hz] at hq; exact ⟨x, rfl, by have hq : some x.block = some a'.block := hq; injection hq⟩
            · right
              intro y hy a ha2
              have := (gc.ORow.lt (hr3.tox y hy) a ha2).2
              omega
          · exact ((HB2.out.trans (hb3.mono HB2.out.size)).mono hbase).trans hrb)
        clear r1 r2 r3 r4 hre hrb hb0 hh hqb hb4 hr3 hbs ht3 h3n hb3 hw3 HTT HQ
        go_upto_region 8 with fail
        go_region_law (first | (refine step_append_eq rfl (.tmp 28) (.tmp 30) 35 35 rfl (.slice z.q m z.d) (.slice (some ⟨w'.heap.size, 0, none⟩) 1 1) rfl rfl HR.out ?_))
        all_goals
          go_wp2_with fail
          go_ret
          exact HFN.out
  · have hx := HX.out
    rw [if_pos ⟨h4, hE⟩] at hx
    subst hx
    have d4 : (E != 0) = true := by simpa using hE
    have d5 : decide (E = 0) = false := by simpa using hE
    clear HX hE
    go_wp2_with fail
    go_ret
    exact HSA.out _ HB1.out _
end
end Go.Proofs.YtmghkcjljnlocaaGreatDoor

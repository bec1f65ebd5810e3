/-
  Contract: what a stage of the document is behind a tick. Conditions: as each states.
  Contracts: force of the document. Conditions: as each states.
  Contract: force of the document. Conditions: as each states.
-/
import Derived.Test.YtlbihcpglcdmmaaGreatZR
namespace Go.Proofs.YtlbihcpglcdmmaaGreat
open Go.RowKit

attribute [local go_sem ↓] to_loadR to_storeR
attribute [local go_sem] run_loadR run_storeR rval
variable {w w' : World} {q n c : Nat} {p : Option Addr} {s s' : St}
set_option maxRecDepth 100000 in
set_option maxHeartbeats 8000000 in
theorem rlook_f (p : Option Addr) (n c : Nat) (s : St) (now : Int) (w : World) (hc : ¬ s.clock < gb.near now) {s1 : St} (hs1 : heardS s now = s1) {L : St} (hL : (if s1.st ≠ 0 then s1 else { s1 with st := foundS s1 }) = L) : Calls Tryz.prog 26 #[.agg (rC p n c s), .int .i64 now] w fun e w' => e = .returned (.agg (rC p n c L)) ∧ Below w.heap.size w w' := by
  have HNR := Lib.hid (fun W => gb.rnear_any now W)
  obtain ⟨W0, hW0, hq, hr, hb⟩ := two_alloc p n c s w
  have hW0 : (w.alloc (.cells (rC p n c s) 38)).alloc (.cells #[.string ⟨#[]⟩, .int .i64 0, .bool false, .int .i64 0, .int .i64 0, .int .i64 0, .int .u64 0, .int .i64 0, .int .i64 0, .int .i64 0, .int .i64 0, .string ⟨#[]⟩, .slice none 0 0, .int .i64 0, .int .i64 0, .int .i64 0, .int .i64 0, .int .i64 0, .int .i64 0, .bool false, .int .i64 0, .int .i64 0] 38) = W0 := hW0
  have x16 : W0.cell? ⟨w.heap.size, 16, none⟩ = some (.int .i64 s.clock) := hq.cell 16
  have f16 : W0.frozen? ⟨w.heap.size, 16, none⟩ = false := hq.frz 16
  have hlt := hr.lt
  have hd : decide (s.clock < gb.near now) = false := by simpa using hc
  have he : s = s1 := by rw [← hs1]; unfold heardS tickS; rw [if_neg hc]
  have hq1 : RAt W0 w.heap.size p n c s1 := by rw [← he]; exact hq
  clear he
  have HB := Lib.hid hb
  have HQ := Lib.hid hq1
  have HR := Lib.hid hr
  have HL := Lib.hid hL
  clear hq hq1 hr hb hs1 hL
  go_enter Tryz.func26, Tryz.ntmps26
  go_wp2_with fail
  clear hW0
  refine (HNR.out _).mono ?_
  rintro e w0 ⟨rfl, rfl⟩
  go_upto_region 4 with fail
  clear hd
  generalize W0 = w1 at *
  clear x16 f16 hlt HNR hc
  by_cases hst : s1.st = 0
  · have HL2 := Lib.hid (HL.out.symm.trans (if_neg (fun h : s1.st ≠ 0 => h hst)))
    have HST := Lib.hid hst
    have HA := Lib.hid (fun W => show Calls Tryz.prog 52 #[.int .i64 s1.began, .int .i64 s1.tx.a] W fun e w' => e = .returned (.int .i64 (addT s1.began s1.tx.a)) ∧ W = w' from gb.radd_any s1.began s1.tx.a W)
    have x21 : w1.cell? ⟨w.heap.size, 21, none⟩ = some (.int .i64 s1.st) := HQ.out.cell 21
    rw [hst] at x21
    have x16 : w1.cell? ⟨w.heap.size, 16, none⟩ = some (.int .i64 s1.clock) := HQ.out.cell 16
    have x15 : w1.cell? ⟨w.heap.size, 15, none⟩ = some (.int .i64 s1.began) := HQ.out.cell 15
    have x4 : w1.cell? ⟨w.heap.size, 4, none⟩ = some (.int .i64 s1.tx.a) := HQ.out.cell 4
    have hlt := HR.out.lt
    obtain ⟨o, ho⟩ : ∃ o, decide (addT s1.began s1.tx.a ≤ s1.clock) = o := ⟨_, rfl⟩
    have HO := Lib.hid ho
    clear hst
    go_wp2_with fail
    go_quiet ((go_at_call 52; exact gc.quiet_left (HA.out _)))
    have HQ2 := Lib.hid (show RAt (w1.drewN nq) w.heap.size p n c s1 from HQ.out)
    have HR2 := Lib.hid (show RAt (w1.drewN nq) (w.heap.size + 1) none 0 0 noSt from HR.out)
    have HB2 := Lib.hid (show Below w.heap.size w (w1.drewN nq) from below_drewN HB.out nq)
    generalize w1.drewN nq = w2 at *
    clear x21 x16 x15 x4 hlt HQ HR HB HL HA ho
    have hF : foundS s1 = if s1.tx.k = 5 ∧ o = true then (2 : Int) else if s1.tx.k = 4 then (if o = true then 1 else 0) else if s1.tx.k = 6 ∧ s1.tx.a ≤ s1.passed then 1 else if s1.closed = true ∧ s1.S.size = 0 ∧ (s1.tx.k ≠ 7 ∨ addT s1.at' s1.tx.a ≤ s1.clock) then 1 else 0 := by
      rw [← HO.out]
      unfold foundS
      simp only [decide_eq_true_eq]
    have HF := Lib.hid hF
    clear hF HO
    by_cases k5 : s1.tx.k = 5
    · have KL := Lib.hid k5
      have X1 := k5
      have x1 : w2.cell? ⟨w.heap.size, 1, none⟩ = some (.int .i64 s1.tx.k) := HQ2.out.cell 1
      rw [k5] at x1
      clear k5 X1
      have X1 := True.intro
      cases o with
      | true =>
        have x21 : w2.cell? ⟨w.heap.size, 21, none⟩ = some (.int .i64 s1.st) := HQ2.out.cell 21
        have f21 : w2.frozen? ⟨w.heap.size, 21, none⟩ = false := HQ2.out.frz 21
        have HQ9 := Lib.hid (HQ2.out.set (i := 21) (v := .int .i64 2) (s' := { s1 with st := 2 }) (p' := p) (n' := n) (c' := c) rfl)
        have HR9 := Lib.hid (HR2.out.far (g := w.heap.size) (i := 21) (.int .i64 2) (Nat.succ_ne_self _))
        have HB9 := Lib.hid (HB2.out.setCell (p := ⟨w.heap.size, 21, none⟩) (Nat.le_refl _) (.int .i64 2))
        go_upto_region 9 with fail
        generalize w2.setCell ⟨w.heap.size, 21, none⟩ (.int .i64 2) = w9 at *
        clear x21 f21 x1
        have i1 := HQ9.out.is
        have k1 := HQ9.out.cells
        have i2 := HR9.out.is
        have hlt := HR9.out.lt
        go_wp2_with fail
        have hz := HR9.out.row p n c { s1 with st := 2 }
        have hb := below_setRow HB9.out (Nat.le_succ w.heap.size) (rC p n c { s1 with st := 2 })
        have HZ := Lib.hid hz
        have HE := Lib.hid hb
        clear hz hb
        generalize w9.setRow (w.heap.size + 1) (rC p n c { s1 with st := 2 }) = wz at *
        exact bodyPost_ret (v := .agg (rC p n c { s1 with st := 2 })) (by simp [results, Tryz.results26, asAddr, loadVar_R HZ.out]) rfl ⟨(by rw [HL2.out, show foundS s1 = 2 by rw [HF.out]; simp [KL.out]]), HE.out⟩
      | false =>
        cases hcl : s1.closed with
        | false =>
          have x19 : w2.cell? ⟨w.heap.size, 19, none⟩ = some (.bool s1.closed) := HQ2.out.cell 19
          rw [hcl] at x19
          have HCL := Lib.hid hcl
          clear hcl
          go_upto_region 20 with fail
          clear x19
          have i1 := HQ2.out.is
          have k1 := HQ2.out.cells
          have i2 := HR2.out.is
          have hlt := HR2.out.lt
          go_wp2_with fail
          have hz := HR2.out.row p n c s1
          have hb := below_setRow HB2.out (Nat.le_succ w.heap.size) (rC p n c s1)
          have HZ := Lib.hid hz
          have HE := Lib.hid hb
          clear hz hb
          generalize w2.setRow (w.heap.size + 1) (rC p n c s1) = wz at *
          exact bodyPost_ret (v := .agg (rC p n c s1)) (by simp [results, Tryz.results26, asAddr, loadVar_R HZ.out]) rfl ⟨(by rw [HL2.out, show foundS s1 = 0 by rw [HF.out]; simp [KL.out, HCL.out]]; rw [st_id HST.out]), HE.out⟩
        | true =>
          have x19 : w2.cell? ⟨w.heap.size, 19, none⟩ = some (.bool s1.closed) := HQ2.out.cell 19
          rw [hcl] at x19
          have HCL := Lib.hid hcl
          have HHD := Lib.hid (fun W => rheld_any p n c s1 W)
          clear hcl
          have i1 := HQ2.out.is
          have k1 := HQ2.out.cells
          have hlt := HR2.out.lt
          go_wp2_with fail
          refine (HHD.out _).mono ?_
          rintro e w3 ⟨rfl, hb3⟩
          have HQ3 := Lib.hid (HQ2.out.on hb3)
          have HR3 := Lib.hid (HR2.out.on hb3)
          have HB3 := Lib.hid (gb.seqB HB2.out hb3)
          clear hb3 x19 i1 k1 hlt HQ2 HR2 HB2 HHD X1
          by_cases hS : s1.S.size = 0
          · have HS := Lib.hid hS
            have h0 : ((s1.S.size : Nat) : Int) = 0 := by omega
            rw [h0]
            clear hS h0
            have x1 : w3.cell? ⟨w.heap.size, 1, none⟩ = some (.int .i64 s1.tx.k) := HQ3.out.cell 1
            have hlt := HR3.out.lt
            rw [KL.out] at x1
            go_wp2_with fail
            go_quiet (fail)
            have HQ4 := Lib.hid (show RAt (w3.drewN nq) w.heap.size p n c s1 from HQ3.out)
            have HR4 := Lib.hid (show RAt (w3.drewN nq) (w.heap.size + 1) none 0 0 noSt from HR3.out)
            have HB4 := Lib.hid (show Below w.heap.size w (w3.drewN nq) from below_drewN HB3.out nq)
            generalize w3.drewN nq = w4 at *
            clear x1 hlt HQ3 HR3 HB3
            have x21 : w4.cell? ⟨w.heap.size, 21, none⟩ = some (.int .i64 s1.st) := HQ4.out.cell 21
            have f21 : w4.frozen? ⟨w.heap.size, 21, none⟩ = false := HQ4.out.frz 21
            have HQ9 := Lib.hid (HQ4.out.set (i := 21) (v := .int .i64 1) (s' := { s1 with st := 1 }) (p' := p) (n' := n) (c' := c) rfl)
            have HR9 := Lib.hid (HR4.out.far (g := w.heap.size) (i := 21) (.int .i64 1) (Nat.succ_ne_self _))
            have HB9 := Lib.hid (HB4.out.setCell (p := ⟨w.heap.size, 21, none⟩) (Nat.le_refl _) (.int .i64 1))
            go_upto_region 20 with fail
            generalize w4.setCell ⟨w.heap.size, 21, none⟩ (.int .i64 1) = w9 at *
            clear x21 f21
            have i1 := HQ9.out.is
            have k1 := HQ9.out.cells
            have i2 := HR9.out.is
            have hlt := HR9.out.lt
            go_wp2_with fail
            have hz := HR9.out.row p n c { s1 with st := 1 }
            have hb := below_setRow HB9.out (Nat.le_succ w.heap.size) (rC p n c { s1 with st := 1 })
            have HZ := Lib.hid hz
            have HE := Lib.hid hb
            clear hz hb
            generalize w9.setRow (w.heap.size + 1) (rC p n c { s1 with st := 1 }) = wz at *
            exact bodyPost_ret (v := .agg (rC p n c { s1 with st := 1 })) (by simp [results, Tryz.results26, asAddr, loadVar_R HZ.out]) rfl ⟨(by rw [HL2.out, show foundS s1 = 1 by rw [HF.out]; simp [KL.out, HCL.out, HS.out]]), HE.out⟩
          · have hs1 : (s1.S.size == 0) = false := by simpa using hS
            have hs2 : decide (s1.S.size = 0) = false := by simpa using hS
            have hs3 : (((s1.S.size : Nat) : Int) == 0) = false := by simp [hS]
            have HS := Lib.hid hS
            clear hS
            go_upto_region 20 with fail
            clear hs1 hs2 hs3
            have i1 := HQ3.out.is
            have k1 := HQ3.out.cells
            have i2 := HR3.out.is
            have hlt := HR3.out.lt
            go_wp2_with fail
            have hz := HR3.out.row p n c s1
            have hb := below_setRow HB3.out (Nat.le_succ w.heap.size) (rC p n c s1)
            have HZ := Lib.hid hz
            have HE := Lib.hid hb
            clear hz hb
            generalize w3.setRow (w.heap.size + 1) (rC p n c s1) = wz at *
            exact bodyPost_ret (v := .agg (rC p n c s1)) (by simp [results, Tryz.results26, asAddr, loadVar_R HZ.out]) rfl ⟨(by rw [HL2.out, show foundS s1 = 0 by rw [HF.out]; simp [KL.out, HCL.out, HS.out]]; rw [st_id HST.out]), HE.out⟩
    by_cases k4 : s1.tx.k = 4
    · have KL := Lib.hid k4
      have x1 : w2.cell? ⟨w.heap.size, 1, none⟩ = some (.int .i64 s1.tx.k) := HQ2.out.cell 1
      rw [k4] at x1
      clear k4
      cases o with
      | true =>
        have x21 : w2.cell? ⟨w.heap.size, 21, none⟩ = some (.int .i64 s1.st) := HQ2.out.cell 21
        have f21 : w2.frozen? ⟨w.heap.size, 21, none⟩ = false := HQ2.out.frz 21
        have HQ9 := Lib.hid (HQ2.out.set (i := 21) (v := .int .i64 1) (s' := { s1 with st := 1 }) (p' := p) (n' := n) (c' := c) rfl)
        have HR9 := Lib.hid (HR2.out.far (g := w.heap.size) (i := 21) (.int .i64 1) (Nat.succ_ne_self _))
        have HB9 := Lib.hid (HB2.out.setCell (p := ⟨w.heap.size, 21, none⟩) (Nat.le_refl _) (.int .i64 1))
        go_upto_region 13 with fail
        generalize w2.setCell ⟨w.heap.size, 21, none⟩ (.int .i64 1) = w9 at *
        clear x21 f21 x1
        have i1 := HQ9.out.is
        have k1 := HQ9.out.cells
        have i2 := HR9.out.is
        have hlt := HR9.out.lt
        go_wp2_with fail
        have hz := HR9.out.row p n c { s1 with st := 1 }
        have hb := below_setRow HB9.out (Nat.le_succ w.heap.size) (rC p n c { s1 with st := 1 })
        have HZ := Lib.hid hz
        have HE := Lib.hid hb
        clear hz hb
        generalize w9.setRow (w.heap.size + 1) (rC p n c { s1 with st := 1 }) = wz at *
        exact bodyPost_ret (v := .agg (rC p n c { s1 with st := 1 })) (by simp [results, Tryz.results26, asAddr, loadVar_R HZ.out]) rfl ⟨(by rw [HL2.out, show foundS s1 = 1 by rw [HF.out]; simp [KL.out]]), HE.out⟩
      | false =>
        go_upto_region 13 with fail
        clear x1
        have i1 := HQ2.out.is
        have k1 := HQ2.out.cells
        have i2 := HR2.out.is
        have hlt := HR2.out.lt
        go_wp2_with fail
        have hz := HR2.out.row p n c s1
        have hb := below_setRow HB2.out (Nat.le_succ w.heap.size) (rC p n c s1)
        have HZ := Lib.hid hz
        have HE := Lib.hid hb
        clear hz hb
        generalize w2.setRow (w.heap.size + 1) (rC p n c s1) = wz at *
        exact bodyPost_ret (v := .agg (rC p n c s1)) (by simp [results, Tryz.results26, asAddr, loadVar_R HZ.out]) rfl ⟨(by rw [HL2.out, show foundS s1 = 0 by rw [HF.out]; simp [KL.out]]; rw [st_id HST.out]), HE.out⟩
    by_cases k6 : s1.tx.k = 6
    · have KL := Lib.hid k6
      have X1 := True.intro
      have x1 : w2.cell? ⟨w.heap.size, 1, none⟩ = some (.int .i64 s1.tx.k) := HQ2.out.cell 1
      rw [k6] at x1
      have x18 : w2.cell? ⟨w.heap.size, 18, none⟩ = some (.int .i64 s1.passed) := HQ2.out.cell 18
      have x4 : w2.cell? ⟨w.heap.size, 4, none⟩ = some (.int .i64 s1.tx.a) := HQ2.out.cell 4
      clear k6
      by_cases hp : s1.tx.a ≤ s1.passed
      · have hd : decide (s1.tx.a ≤ s1.passed) = true := by simpa using hp
        have HP := Lib.hid hp
        clear hp
        have x21 : w2.cell? ⟨w.heap.size, 21, none⟩ = some (.int .i64 s1.st) := HQ2.out.cell 21
        have f21 : w2.frozen? ⟨w.heap.size, 21, none⟩ = false := HQ2.out.frz 21
        have HQ9 := Lib.hid (HQ2.out.set (i := 21) (v := .int .i64 1) (s' := { s1 with st := 1 }) (p' := p) (n' := n) (c' := c) rfl)
        have HR9 := Lib.hid (HR2.out.far (g := w.heap.size) (i := 21) (.int .i64 1) (Nat.succ_ne_self _))
        have HB9 := Lib.hid (HB2.out.setCell (p := ⟨w.heap.size, 21, none⟩) (Nat.le_refl _) (.int .i64 1))
        go_upto_region 16 with fail
        generalize w2.setCell ⟨w.heap.size, 21, none⟩ (.int .i64 1) = w9 at *
        clear x21 f21 x1 x18 x4 hd
        have i1 := HQ9.out.is
        have k1 := HQ9.out.cells
        have i2 := HR9.out.is
        have hlt := HR9.out.lt
        go_wp2_with fail
        have hz := HR9.out.row p n c { s1 with st := 1 }
        have hb := below_setRow HB9.out (Nat.le_succ w.heap.size) (rC p n c { s1 with st := 1 })
        have HZ := Lib.hid hz
        have HE := Lib.hid hb
        clear hz hb
        generalize w9.setRow (w.heap.size + 1) (rC p n c { s1 with st := 1 }) = wz at *
        exact bodyPost_ret (v := .agg (rC p n c { s1 with st := 1 })) (by simp [results, Tryz.results26, asAddr, loadVar_R HZ.out]) rfl ⟨(by rw [HL2.out, show foundS s1 = 1 by rw [HF.out]; simp [KL.out, HP.out]]), HE.out⟩
      · have hd : decide (s1.tx.a ≤ s1.passed) = false := by simpa using hp
        have HP := Lib.hid hp
        clear hp
        cases hcl : s1.closed with
        | false =>
          have x19 : w2.cell? ⟨w.heap.size, 19, none⟩ = some (.bool s1.closed) := HQ2.out.cell 19
          rw [hcl] at x19
          have HCL := Lib.hid hcl
          clear hcl
          go_upto_region 20 with fail
          clear x19
          have i1 := HQ2.out.is
          have k1 := HQ2.out.cells
          have i2 := HR2.out.is
          have hlt := HR2.out.lt
          go_wp2_with fail
          have hz := HR2.out.row p n c s1
          have hb := below_setRow HB2.out (Nat.le_succ w.heap.size) (rC p n c s1)
          have HZ := Lib.hid hz
          have HE := Lib.hid hb
          clear hz hb
          generalize w2.setRow (w.heap.size + 1) (rC p n c s1) = wz at *
          exact bodyPost_ret (v := .agg (rC p n c s1)) (by simp [results, Tryz.results26, asAddr, loadVar_R HZ.out]) rfl ⟨(by rw [HL2.out, show foundS s1 = 0 by rw [HF.out]; simp [KL.out, HP.out, HCL.out]]; rw [st_id HST.out]), HE.out⟩
        | true =>
          have x19 : w2.cell? ⟨w.heap.size, 19, none⟩ = some (.bool s1.closed) := HQ2.out.cell 19
          rw [hcl] at x19
          have HCL := Lib.hid hcl
          have HHD := Lib.hid (fun W => rheld_any p n c s1 W)
          clear hcl
          have i1 := HQ2.out.is
          have k1 := HQ2.out.cells
          have hlt := HR2.out.lt
          go_wp2_with fail
          refine (HHD.out _).mono ?_
          rintro e w3 ⟨rfl, hb3⟩
          have HQ3 := Lib.hid (HQ2.out.on hb3)
          have HR3 := Lib.hid (HR2.out.on hb3)
          have HB3 := Lib.hid (gb.seqB HB2.out hb3)
          clear hb3 x19 i1 k1 hlt HQ2 HR2 HB2 HHD X1
          by_cases hS : s1.S.size = 0
          · have HS := Lib.hid hS
            have h0 : ((s1.S.size : Nat) : Int) = 0 := by omega
            rw [h0]
            clear hS h0
            have x1 : w3.cell? ⟨w.heap.size, 1, none⟩ = some (.int .i64 s1.tx.k) := HQ3.out.cell 1
            have hlt := HR3.out.lt
            rw [KL.out] at x1
            go_wp2_with fail
            go_quiet (fail)
            have HQ4 := Lib.hid (show RAt (w3.drewN nq) w.heap.size p n c s1 from HQ3.out)
            have HR4 := Lib.hid (show RAt (w3.drewN nq) (w.heap.size + 1) none 0 0 noSt from HR3.out)
            have HB4 := Lib.hid (show Below w.heap.size w (w3.drewN nq) from below_drewN HB3.out nq)
            generalize w3.drewN nq = w4 at *
            clear x1 hlt HQ3 HR3 HB3
            have x21 : w4.cell? ⟨w.heap.size, 21, none⟩ = some (.int .i64 s1.st) := HQ4.out.cell 21
            have f21 : w4.frozen? ⟨w.heap.size, 21, none⟩ = false := HQ4.out.frz 21
            have HQ9 := Lib.hid (HQ4.out.set (i := 21) (v := .int .i64 1) (s' := { s1 with st := 1 }) (p' := p) (n' := n) (c' := c) rfl)
            have HR9 := Lib.hid (HR4.out.far (g := w.heap.size) (i := 21) (.int .i64 1) (Nat.succ_ne_self _))
            have HB9 := Lib.hid (HB4.out.setCell (p := ⟨w.heap.size, 21, none⟩) (Nat.le_refl _) (.int .i64 1))
            go_upto_region 20 with fail
            generalize w4.setCell ⟨w.heap.size, 21, none⟩ (.int .i64 1) = w9 at *
            clear x21 f21
            have i1 := HQ9.out.is
            have k1 := HQ9.out.cells
            have i2 := HR9.out.is
            have hlt := HR9.out.lt
            go_wp2_with fail
            have hz := HR9.out.row p n c { s1 with st := 1 }
            have hb := below_setRow HB9.out (Nat.le_succ w.heap.size) (rC p n c { s1 with st := 1 })
            have HZ := Lib.hid hz
            have HE := Lib.hid hb
            clear hz hb
            generalize w9.setRow (w.heap.size + 1) (rC p n c { s1 with st := 1 }) = wz at *
            exact bodyPost_ret (v := .agg (rC p n c { s1 with st := 1 })) (by simp [results, Tryz.results26, asAddr, loadVar_R HZ.out]) rfl ⟨(by rw [HL2.out, show foundS s1 = 1 by rw [HF.out]; simp [KL.out, HCL.out, HS.out]]), HE.out⟩
          · have hs1 : (s1.S.size == 0) = false := by simpa using hS
            have hs2 : decide (s1.S.size = 0) = false := by simpa using hS
            have hs3 : (((s1.S.size : Nat) : Int) == 0) = false := by simp [hS]
            have HS := Lib.hid hS
            clear hS
            go_upto_region 20 with fail
            clear hs1 hs2 hs3
            have i1 := HQ3.out.is
            have k1 := HQ3.out.cells
            have i2 := HR3.out.is
            have hlt := HR3.out.lt
            go_wp2_with fail
            have hz := HR3.out.row p n c s1
            have hb := below_setRow HB3.out (Nat.le_succ w.heap.size) (rC p n c s1)
            have HZ := Lib.hid hz
            have HE := Lib.hid hb
            clear hz hb
            generalize w3.setRow (w.heap.size + 1) (rC p n c s1) = wz at *
            exact bodyPost_ret (v := .agg (rC p n c s1)) (by simp [results, Tryz.results26, asAddr, loadVar_R HZ.out]) rfl ⟨(by rw [HL2.out, show foundS s1 = 0 by rw [HF.out]; simp [KL.out, HP.out, HCL.out, HS.out]]; rw [st_id HST.out]), HE.out⟩
    have e5 : (s1.tx.k == 5) = false := by simpa using k5
    have e4 : (s1.tx.k == 4) = false := by simpa using k4
    have e6 : (s1.tx.k == 6) = false := by simpa using k6
    have d5 : decide (s1.tx.k = 5) = false := by simpa using k5
    have d4 : decide (s1.tx.k = 4) = false := by simpa using k4
    have d6 : decide (s1.tx.k = 6) = false := by simpa using k6
    have x1 : w2.cell? ⟨w.heap.size, 1, none⟩ = some (.int .i64 s1.tx.k) := HQ2.out.cell 1
    have X1 := True.intro
    have K5 := Lib.hid k5
    have K4 := Lib.hid k4
    have K6 := Lib.hid k6
    clear k5 k4 k6
    cases hcl : s1.closed with
    | false =>
      have x19 : w2.cell? ⟨w.heap.size, 19, none⟩ = some (.bool s1.closed) := HQ2.out.cell 19
      rw [hcl] at x19
      have HCL := Lib.hid hcl
      clear hcl
      go_upto_region 20 with fail
      clear x19
      have i1 := HQ2.out.is
      have k1 := HQ2.out.cells
      have i2 := HR2.out.is
      have hlt := HR2.out.lt
      go_wp2_with fail
      have hz := HR2.out.row p n c s1
      have hb := below_setRow HB2.out (Nat.le_succ w.heap.size) (rC p n c s1)
      have HZ := Lib.hid hz
      have HE := Lib.hid hb
      clear hz hb
      generalize w2.setRow (w.heap.size + 1) (rC p n c s1) = wz at *
      exact bodyPost_ret (v := .agg (rC p n c s1)) (by simp [results, Tryz.results26, asAddr, loadVar_R HZ.out]) rfl ⟨(by rw [HL2.out, show foundS s1 = 0 by rw [HF.out]; simp [K5.out, K4.out, K6.out, HCL.out]]; rw [st_id HST.out]), HE.out⟩
    | true =>
      have x19 : w2.cell? ⟨w.heap.size, 19, none⟩ = some (.bool s1.closed) := HQ2.out.cell 19
      rw [hcl] at x19
      have HCL := Lib.hid hcl
      have HHD := Lib.hid (fun W => rheld_any p n c s1 W)
      clear hcl
      have i1 := HQ2.out.is
      have k1 := HQ2.out.cells
      have hlt := HR2.out.lt
      go_wp2_with fail
      refine (HHD.out _).mono ?_
      rintro e w3 ⟨rfl, hb3⟩
      have HQ3 := Lib.hid (HQ2.out.on hb3)
      have HR3 := Lib.hid (HR2.out.on hb3)
      have HB3 := Lib.hid (gb.seqB HB2.out hb3)
      clear hb3 x19 i1 k1 hlt HQ2 HR2 HB2 HHD X1
      by_cases hS : s1.S.size = 0
      · have HS := Lib.hid hS
        have h0 : ((s1.S.size : Nat) : Int) = 0 := by omega
        rw [h0]
        clear hS h0
        have x1 : w3.cell? ⟨w.heap.size, 1, none⟩ = some (.int .i64 s1.tx.k) := HQ3.out.cell 1
        have hlt := HR3.out.lt
        by_cases k7 : s1.tx.k = 7
        · have H7 := Lib.hid k7
          rw [k7] at x1
          have x16 : w3.cell? ⟨w.heap.size, 16, none⟩ = some (.int .i64 s1.clock) := HQ3.out.cell 16
          have x20 : w3.cell? ⟨w.heap.size, 20, none⟩ = some (.int .i64 s1.at') := HQ3.out.cell 20
          have x4 : w3.cell? ⟨w.heap.size, 4, none⟩ = some (.int .i64 s1.tx.a) := HQ3.out.cell 4
          have HA2 := Lib.hid (fun W => show Calls Tryz.prog 52 #[.int .i64 s1.at', .int .i64 s1.tx.a] W fun e w' => e = .returned (.int .i64 (addT s1.at' s1.tx.a)) ∧ W = w' from gb.radd_any s1.at' s1.tx.a W)
          obtain ⟨o2, ho2⟩ : ∃ o2, decide (addT s1.at' s1.tx.a ≤ s1.clock) = o2 := ⟨_, rfl⟩
          have HO2 := Lib.hid ho2
          clear k7
          go_wp2_with fail
          go_quiet ((go_at_call 52; exact gc.quiet_left (HA2.out _)))
          have HQ4 := Lib.hid (show RAt (w3.drewN nq) w.heap.size p n c s1 from HQ3.out)
          have HR4 := Lib.hid (show RAt (w3.drewN nq) (w.heap.size + 1) none 0 0 noSt from HR3.out)
          have HB4 := Lib.hid (show Below w.heap.size w (w3.drewN nq) from below_drewN HB3.out nq)
          generalize w3.drewN nq = w4 at *
          clear x1 x16 x20 x4 hlt HQ3 HR3 HB3 ho2
          cases o2 with
          | true =>
            have x21 : w4.cell? ⟨w.heap.size, 21, none⟩ = some (.int .i64 s1.st) := HQ4.out.cell 21
            have f21 : w4.frozen? ⟨w.heap.size, 21, none⟩ = false := HQ4.out.frz 21
            have HQ9 := Lib.hid (HQ4.out.set (i := 21) (v := .int .i64 1) (s' := { s1 with st := 1 }) (p' := p) (n' := n) (c' := c) rfl)
            have HR9 := Lib.hid (HR4.out.far (g := w.heap.size) (i := 21) (.int .i64 1) (Nat.succ_ne_self _))
            have HB9 := Lib.hid (HB4.out.setCell (p := ⟨w.heap.size, 21, none⟩) (Nat.le_refl _) (.int .i64 1))
            go_upto_region 20 with fail
            generalize w4.setCell ⟨w.heap.size, 21, none⟩ (.int .i64 1) = w9 at *
            clear x21 f21
            have i1 := HQ9.out.is
            have k1 := HQ9.out.cells
            have i2 := HR9.out.is
            have hlt := HR9.out.lt
            go_wp2_with fail
            have hz := HR9.out.row p n c { s1 with st := 1 }
            have hb := below_setRow HB9.out (Nat.le_succ w.heap.size) (rC p n c { s1 with st := 1 })
            have HZ := Lib.hid hz
            have HE := Lib.hid hb
            clear hz hb
            generalize w9.setRow (w.heap.size + 1) (rC p n c { s1 with st := 1 }) = wz at *
            exact bodyPost_ret (v := .agg (rC p n c { s1 with st := 1 })) (by simp [results, Tryz.results26, asAddr, loadVar_R HZ.out]) rfl ⟨(by rw [HL2.out, show foundS s1 = 1 by rw [HF.out]; simp [HCL.out, HS.out, H7.out, of_decide_eq_true HO2.out]]), HE.out⟩
          | false =>
            go_upto_region 20 with fail
            have i1 := HQ4.out.is
            have k1 := HQ4.out.cells
            have i2 := HR4.out.is
            have hlt := HR4.out.lt
            go_wp2_with fail
            have hz := HR4.out.row p n c s1
            have hb := below_setRow HB4.out (Nat.le_succ w.heap.size) (rC p n c s1)
            have HZ := Lib.hid hz
            have HE := Lib.hid hb
            clear hz hb
            generalize w4.setRow (w.heap.size + 1) (rC p n c s1) = wz at *
            exact bodyPost_ret (v := .agg (rC p n c s1)) (by simp [results, Tryz.results26, asAddr, loadVar_R HZ.out]) rfl ⟨(by rw [HL2.out, show foundS s1 = 0 by rw [HF.out]; simp [HCL.out, HS.out, H7.out, of_decide_eq_false HO2.out]]; rw [st_id HST.out]), HE.out⟩
        · have e7 : (s1.tx.k != 7) = true := by simpa using k7
          have d7 : decide (s1.tx.k = 7) = false := by simpa using k7
          have H7 := Lib.hid k7
          clear k7
          go_wp2_with fail
          go_quiet (fail)
          have HQ4 := Lib.hid (show RAt (w3.drewN nq) w.heap.size p n c s1 from HQ3.out)
          have HR4 := Lib.hid (show RAt (w3.drewN nq) (w.heap.size + 1) none 0 0 noSt from HR3.out)
          have HB4 := Lib.hid (show Below w.heap.size w (w3.drewN nq) from below_drewN HB3.out nq)
          generalize w3.drewN nq = w4 at *
          clear x1 hlt HQ3 HR3 HB3
          have x21 : w4.cell? ⟨w.heap.size, 21, none⟩ = some (.int .i64 s1.st) := HQ4.out.cell 21
          have f21 : w4.frozen? ⟨w.heap.size, 21, none⟩ = false := HQ4.out.frz 21
          have HQ9 := Lib.hid (HQ4.out.set (i := 21) (v := .int .i64 1) (s' := { s1 with st := 1 }) (p' := p) (n' := n) (c' := c) rfl)
          have HR9 := Lib.hid (HR4.out.far (g := w.heap.size) (i := 21) (.int .i64 1) (Nat.succ_ne_self _))
          have HB9 := Lib.hid (HB4.out.setCell (p := ⟨w.heap.size, 21, none⟩) (Nat.le_refl _) (.int .i64 1))
          go_upto_region 20 with fail
          generalize w4.setCell ⟨w.heap.size, 21, none⟩ (.int .i64 1) = w9 at *
          clear x21 f21
          have i1 := HQ9.out.is
          have k1 := HQ9.out.cells
          have i2 := HR9.out.is
          have hlt := HR9.out.lt
          go_wp2_with fail
          have hz := HR9.out.row p n c { s1 with st := 1 }
          have hb := below_setRow HB9.out (Nat.le_succ w.heap.size) (rC p n c { s1 with st := 1 })
          have HZ := Lib.hid hz
          have HE := Lib.hid hb
          clear hz hb
          generalize w9.setRow (w.heap.size + 1) (rC p n c { s1 with st := 1 }) = wz at *
          exact bodyPost_ret (v := .agg (rC p n c { s1 with st := 1 })) (by simp [results, Tryz.results26, asAddr, loadVar_R HZ.out]) rfl ⟨(by rw [HL2.out, show foundS s1 = 1 by rw [HF.out]; simp [K5.out, K4.out, K6.out, HCL.out, HS.out, H7.out]]), HE.out⟩
      · have hs1 : (s1.S.size == 0) = false := by simpa using hS
        have hs2 : decide (s1.S.size = 0) = false := by simpa using hS
        have hs3 : (((s1.S.size : Nat) : Int) == 0) = false := by simp [hS]
        have HS := Lib.hid hS
        clear hS
        go_upto_region 20 with fail
        clear hs1 hs2 hs3
        have i1 := HQ3.out.is
        have k1 := HQ3.out.cells
        have i2 := HR3.out.is
        have hlt := HR3.out.lt
        go_wp2_with fail
        have hz := HR3.out.row p n c s1
        have hb := below_setRow HB3.out (Nat.le_succ w.heap.size) (rC p n c s1)
        have HZ := Lib.hid hz
        have HE := Lib.hid hb
        clear hz hb
        generalize w3.setRow (w.heap.size + 1) (rC p n c s1) = wz at *
        exact bodyPost_ret (v := .agg (rC p n c s1)) (by simp [results, Tryz.results26, asAddr, loadVar_R HZ.out]) rfl ⟨(by rw [HL2.out, show foundS s1 = 0 by rw [HF.out]; simp [K5.out, K4.out, K6.out, HCL.out, HS.out]]; rw [st_id HST.out]), HE.out⟩
  · have HL2 := Lib.hid (HL.out.symm.trans (if_pos hst))
    have e1 : (s1.st != 0) = true := by simpa using hst
    have e2 : decide (s1.st = 0) = false := by simpa using hst
    have x21 : w1.cell? ⟨w.heap.size, 21, none⟩ = some (.int .i64 s1.st) := HQ.out.cell 21
    clear hst HL
    go_upto_region 5 with fail
    clear x21 e1 e2
    have i1 := HQ.out.is
    have k1 := HQ.out.cells
    have i2 := HR.out.is
    have hlt := HR.out.lt
    go_wp2_with fail
    have hz := HR.out.row p n c s1
    have hb := below_setRow HB.out (Nat.le_succ w.heap.size) (rC p n c s1)
    have HZ := Lib.hid hz
    have HE := Lib.hid hb
    clear hz hb
    generalize w1.setRow (w.heap.size + 1) (rC p n c s1) = wz at *
    exact bodyPost_ret (v := .agg (rC p n c s1)) (by simp [results, Tryz.results26, asAddr, loadVar_R HZ.out]) rfl ⟨(by rw [HL2.out]), HE.out⟩
theorem rlook_any (p : Option Addr) (n c : Nat) (s : St) (now : Int) (w : World) : Calls Tryz.prog 26 #[.agg (rC p n c s), .int .i64 now] w fun e w' => e = .returned (.agg (rC p n c (lookS s now))) ∧ Below w.heap.size w w' := by
  by_cases hc : s.clock < gb.near now
  · exact rlook_t p n c s now w hc rfl (look_if s now)
  · exact rlook_f p n c s now w hc rfl (look_if s now)
end Go.Proofs.YtlbihcpglcdmmaaGreat
namespace Go.Proofs.YtlbihcpglcdmmaaGreat
open Go.RowKit

attribute [local go_sem ↓] to_loadR to_storeR
attribute [local go_sem] run_loadR run_storeR rval
variable {w w' : World} {q n c : Nat} {p : Option Addr} {s s' : St}
theorem rowA_typed {xs : List Int} (h : gc.RowA w p n c xs) (hk : ∀ (b : Nat) (cs : Array Value) (fr : Nat × Nat), w.heap[b]? = some (Obj.cells cs 3 fr) → w'.heap[b]? = w.heap[b]?) : gc.RowA w' p n c xs := by
  obtain ⟨h1, h2, h3, h4, h5, h6⟩ := h
  refine ⟨h1, h2, h3, ?_, h5, fun hn => ?_⟩
  · rcases Nat.eq_zero_or_pos n with h0 | h0
    · subst h0
      intro hn
      exact absurd hn (Nat.lt_irrefl 0)
    · obtain ⟨a, cs, fr, e, hh⟩ := h6 h0
      intro hn
      obtain ⟨b, o, e2, hc⟩ := h4 hn
      refine ⟨b, o, e2, fun i hi => ?_⟩
      rw [← hc i hi]
      rw [e2] at e
      injection e with e
      subst e
      simp only [World.cell?]
      rw [hk _ _ _ hh]
  · obtain ⟨a, cs, fr, e, hh⟩ := h6 hn
    exact ⟨a, cs, fr, e, (hk _ _ _ hh).trans hh⟩
theorem RAt.not_int (h : RAt w q p n c s) {b : Nat} {cs : Array Value} {fr : Nat × Nat} (hb : w.heap[b]? = some (.cells cs 3 fr)) : b ≠ q := fun e => by
  rw [e] at hb
  unfold RAt at h
  rw [h] at hb
  injection hb with hb
  injection hb with _ hb
  simp at hb
theorem rowA_setR {xs : List Int} {p' : Option Addr} {n' c' : Nat} (h : gc.RowA w p n c xs) (hq : RAt w q p' n' c' s) (cs : Array Value) : gc.RowA (w.setRow q cs) p n c xs := rowA_typed h fun _ _ _ hb => setRow_other w q _ cs (hq.not_int hb)
theorem rowA_setC {xs : List Int} {p' : Option Addr} {n' c' : Nat} (h : gc.RowA w p n c xs) (hq : RAt w q p' n' c' s) (i : Nat) (v : Value) : gc.RowA (w.setCell ⟨q, i, none⟩ v) p n c xs := rowA_typed h fun _ _ _ hb => Below.heap_setCell w ⟨q, i, none⟩ v _ (hq.not_int hb)
/-- What a call leaves that hands a stage of the document back. -/
def Frc (s : St) (w : World) (e : Ending) (w' : World) : Prop := ∃ p n c, e = .returned (.agg (rC p n c s)) ∧ gc.RowA w' p n c s.A ∧ Below w.heap.size w w'
theorem cargo_alloc (w : World) : ∃ W0, w.alloc (.cells #[.string ⟨#[]⟩, .slice none 0 0, .int .i64 0] 36) = W0 ∧ W0.heap[w.heap.size]? = some (.cells #[.string ⟨#[]⟩, .slice none 0 0, .int .i64 0] 36 (0, 0)) ∧ Below w.heap.size w W0 := ⟨_, rfl, heap_alloc_new w _, (Below.refl _ _).alloc (Nat.le_refl _) _⟩
def set3c (w : World) (g : Nat) (S : ByteArray) (p : Option Addr) (n c : Nat) (l : Int) : World := ((w.setCell ⟨g, 0, none⟩ (.string S)).setCell ⟨g, 1, none⟩ (.slice p n c)).setCell ⟨g, 2, none⟩ (.int .i64 l)
theorem set3c_heap {g : Nat} {a b d : Value} (h : w.heap[g]? = some (.cells #[a, b, d] 36 (0, 0))) (S : ByteArray) (p : Option Addr) (n c : Nat) (l : Int) : (set3c w g S p n c l).heap[g]? = some (.cells #[.string S, .slice p n c, .int .i64 l] 36 (0, 0)) := by
  unfold set3c
  have h1 : _ = some (Obj.cells #[.string S, b, d] 36 (0, 0)) := gb.set_heap (i := 0) h (.string S)
  have h2 : _ = some (Obj.cells #[.string S, .slice p n c, d] 36 (0, 0)) := gb.set_heap (i := 1) h1 (.slice p n c)
  exact gb.set_heap (i := 2) h2 (.int .i64 l)
theorem set3c_below {B : Nat} {w0 : World} {g : Nat} (h : Below B w0 w) (hg : B ≤ g) (S : ByteArray) (p : Option Addr) (n c : Nat) (l : Int) : Below B w0 (set3c w g S p n c l) := ((h.setCell (p := ⟨g, 0, none⟩) hg _).setCell (p := ⟨g, 1, none⟩) hg _).setCell (p := ⟨g, 2, none⟩) hg _
/-- A cargo is stored into a stage. -/
def putC (w : World) (q : Nat) (S : ByteArray) (p : Option Addr) (n c : Nat) (l : Int) : World := ((w.setCell ⟨q, 11, none⟩ (.string S)).setCell ⟨q, 12, none⟩ (.slice p n c)).setCell ⟨q, 13, none⟩ (.int .i64 l)
theorem RAt.putC (h : RAt w q p n c s) (S : ByteArray) (A : List Int) (p' : Option Addr) (n' c' : Nat) (l : Int) : RAt (putC w q S p' n' c' l) q p' n' c' { s with S := S, A := A, last := l } :=
  ((h.set (i := 11) (s' := { s with S := S }) (p' := p) (n' := n) (c' := c) rfl).set (i := 12) (s' := { s with S := S }) (p' := p') (n' := n') (c' := c') rfl).set (i := 13) rfl
theorem putC_far {i : Nat} (hi : i ≠ q) (S : ByteArray) (p : Option Addr) (n c : Nat) (l : Int) : (putC w q S p n c l).heap[i]? = w.heap[i]? := by
  unfold Go.Proofs.YtlbihcpglcdmmaaGreat.putC
  rw [Below.heap_setCell _ _ _ _ hi, Below.heap_setCell _ _ _ _ hi, Below.heap_setCell _ _ _ _ hi]
theorem putC_below {B : Nat} {w0 : World} (h : Below B w0 w) (hg : B ≤ q) (S : ByteArray) (p : Option Addr) (n c : Nat) (l : Int) : Below B w0 (putC w q S p n c l) := ((h.setCell (p := ⟨q, 11, none⟩) hg _).setCell (p := ⟨q, 12, none⟩) hg _).setCell (p := ⟨q, 13, none⟩) hg _
set_option maxRecDepth 100000 in
set_option maxHeartbeats 8000000 in
theorem rforce_none (p : Option Addr) (n c : Nat) (s : St) (w : World) (hrow : gc.RowA w p n c s.A) : Calls Tryz.prog 50 #[.agg (rC p n c s), .string ⟨#[]⟩] w (Frc s w) := by
  obtain ⟨W0, hW0, hq, hr, hb⟩ := two_alloc p n c s w
  have hW0 : (w.alloc (.cells (rC p n c s) 38)).alloc (.cells #[.string ⟨#[]⟩, .int .i64 0, .bool false, .int .i64 0, .int .i64 0, .int .i64 0, .int .u64 0, .int .i64 0, .int .i64 0, .int .i64 0, .int .i64 0, .string ⟨#[]⟩, .slice none 0 0, .int .i64 0, .int .i64 0, .int .i64 0, .int .i64 0, .int .i64 0, .int .i64 0, .bool false, .int .i64 0, .int .i64 0] 38) = W0 := hW0
  have HB := Lib.hid hb
  have HQ := Lib.hid hq
  have HR := Lib.hid hr
  have HROW := Lib.hid (gc.rowA_on hrow hb)
  have hlt := hr.lt
  have i1 := HQ.out.is
  have k1 := HQ.out.cells
  have i2 := HR.out.is
  clear hq hr hb hrow
  go_enter Tryz.func50, Tryz.ntmps50
  go_wp2_with fail
  have hz := HR.out.row p n c s
  have hb := below_setRow HB.out (Nat.le_succ w.heap.size) (rC p n c s)
  have hrw := rowA_setR HROW.out HR.out (rC p n c s)
  have HZ := Lib.hid hz
  have HE := Lib.hid hb
  have HRW := Lib.hid hrw
  clear hz hb hrw
  generalize W0.setRow (w.heap.size + 1) (rC p n c s) = wz at *
  exact bodyPost_ret (v := .agg (rC p n c s)) (by simp [results, Tryz.results50, asAddr, loadVar_R HZ.out]) rfl ⟨p, n, c, rfl, HRW.out, HE.out⟩
set_option maxRecDepth 100000 in
set_option maxHeartbeats 8000000 in
theorem rforce_now (p : Option Addr) (n c : Nat) (s : St) (w : World) (hrow : gc.RowA w p n c s.A) {b : ByteArray} (hk : s.tx.k ≠ 1) (hb0 : 0 < b.size) (hn : n ≤ 100000) (hbs : b.size ≤ 100000) (hS : s.S.size ≤ 100000) {T : Int} (hT : gc.putT s.last s.clock = T) : Calls Tryz.prog 50 #[.agg (rC p n c s), .string b] w (Frc { s with S := s.S ++ b, A := s.A ++ List.replicate b.size T, last := T } w) := by
  have HP := Lib.hid (fun W (hr : gc.RowA W p n c s.A) => gc.rput_some s.S b p n c s.A s.last s.clock W hr hn hbs hS hb0 hT)
  have eb := gc.text_some hb0
  have e1 : (s.tx.k == 1) = false := by simpa using hk
  have e2 : decide (s.tx.k = 1) = false := by simpa using hk
  clear hk hb0 hn hbs hS hT
  obtain ⟨W0, hW0, hq, hr, hb⟩ := two_alloc p n c s w
  have hW0 : (w.alloc (.cells (rC p n c s) 38)).alloc (.cells #[.string ⟨#[]⟩, .int .i64 0, .bool false, .int .i64 0, .int .i64 0, .int .i64 0, .int .u64 0, .int .i64 0, .int .i64 0, .int .i64 0, .int .i64 0, .string ⟨#[]⟩, .slice none 0 0, .int .i64 0, .int .i64 0, .int .i64 0, .int .i64 0, .int .i64 0, .int .i64 0, .bool false, .int .i64 0, .int .i64 0] 38) = W0 := hW0
  have HB := Lib.hid hb
  have HQ := Lib.hid hq
  have HR := Lib.hid hr
  have HROW := Lib.hid (gc.rowA_on hrow hb)
  have hlt := hr.lt
  have x1 : W0.cell? ⟨w.heap.size, 1, none⟩ = some (.int .i64 s.tx.k) := hq.cell 1
  have x11 : W0.cell? ⟨w.heap.size, 11, none⟩ = some (.string s.S) := hq.cell 11
  have x12 : W0.cell? ⟨w.heap.size, 12, none⟩ = some (.slice p n c) := hq.cell 12
  have x13 : W0.cell? ⟨w.heap.size, 13, none⟩ = some (.int .i64 s.last) := hq.cell 13
  have x16 : W0.cell? ⟨w.heap.size, 16, none⟩ = some (.int .i64 s.clock) := hq.cell 16
  clear hq hr hb hrow
  go_enter Tryz.func50, Tryz.ntmps50
  go_wp2_with fail
  clear hW0 x1 x11 x12 x13 x16 hlt eb e1 e2
  refine (HP.out _ HROW.out).mono ?_
  rintro e w1 ⟨p1, n1, c1, rfl, hrow1, hb1⟩
  obtain ⟨W2, hW2, hc2, hb2⟩ := cargo_alloc w1
  have hs3 := set3c_heap hc2 (s.S ++ b) p1 n1 c1 T
  have hb3 := set3c_below hb2 (Nat.le_refl _) (s.S ++ b) p1 n1 c1 T
  have hq3 := HQ.out.on (gb.seqB hb1 hb3)
  have HR3 := Lib.hid (HR.out.on (gb.seqB hb1 hb3))
  have HB3 := Lib.hid (gb.seqB HB.out (gb.seqB hb1 hb3))
  have HROW3 := Lib.hid (gc.rowA_on hrow1 hb3)
  have HC3 := Lib.hid hs3
  have HQ3 := Lib.hid hq3
  have hne := (Nat.lt_of_lt_of_le HQ.out.lt hb1.size)
  have HNE := Lib.hid (show w1.heap.size ≠ w.heap.size by omega)
  have z0 : W2.cell? ⟨w1.heap.size, 0, none⟩ = some (.string ⟨#[]⟩) := cell_of_row _ _ 0 _ _ _ hc2
  have z1 : W2.cell? ⟨w1.heap.size, 1, none⟩ = some (.slice none 0 0) := cell_of_row _ _ 1 _ _ _ hc2
  have z2 : W2.cell? ⟨w1.heap.size, 2, none⟩ = some (.int .i64 0) := cell_of_row _ _ 2 _ _ _ hc2
  have g0 : W2.frozen? ⟨w1.heap.size, 0, none⟩ = false := gb.frozen_at hc2
  have g1 : W2.frozen? ⟨w1.heap.size, 1, none⟩ = false := gb.frozen_at hc2
  have g2 : W2.frozen? ⟨w1.heap.size, 2, none⟩ = false := gb.frozen_at hc2
  have hlt2 := gb.blk_lt hc2
  clear hrow1 hb1 hc2 hs3 hb3 hq3 hb2 hne HP
  go_upto_region 9 with fail
  generalize hW3 : set3c W2 w1.heap.size (s.S ++ b) p1 n1 c1 T = w3 at *
  unfold set3c at hW3
  rw [hW3]
  clear hW3 z0 z1 z2 g0 g1 g2 hlt2 hW2
  generalize w1.heap.size = g at *
  have y0 : w3.cell? ⟨g, 0, none⟩ = some (.string (s.S ++ b)) := cell_of_row _ _ 0 _ _ _ HC3.out
  have y1 : w3.cell? ⟨g, 1, none⟩ = some (.slice p1 n1 c1) := cell_of_row _ _ 1 _ _ _ HC3.out
  have y2 : w3.cell? ⟨g, 2, none⟩ = some (.int .i64 T) := cell_of_row _ _ 2 _ _ _ HC3.out
  have u11 : w3.cell? ⟨w.heap.size, 11, none⟩ = some (.string s.S) := HQ3.out.cell 11
  have u12 : w3.cell? ⟨w.heap.size, 12, none⟩ = some (.slice p n c) := HQ3.out.cell 12
  have u13 : w3.cell? ⟨w.heap.size, 13, none⟩ = some (.int .i64 s.last) := HQ3.out.cell 13
  have v11 := HQ3.out.frz 11
  have v12 := HQ3.out.frz 12
  have v13 := HQ3.out.frz 13
  have HQ4 := Lib.hid (HQ3.out.putC (s.S ++ b) (s.A ++ List.replicate b.size T) p1 n1 c1 T)
  have HR4 := Lib.hid (show RAt (putC w3 w.heap.size (s.S ++ b) p1 n1 c1 T) (w.heap.size + 1) none 0 0 noSt from (putC_far (Nat.succ_ne_self _) _ _ _ _ _).trans HR3.out)
  have HB4 := Lib.hid (putC_below HB3.out (Nat.le_refl _) (s.S ++ b) p1 n1 c1 T)
  have HROW4 := Lib.hid (show gc.RowA (putC w3 w.heap.size (s.S ++ b) p1 n1 c1 T) p1 n1 c1 (s.A ++ List.replicate b.size T) from rowA_typed HROW3.out fun _ _ _ hb => putC_far (HQ3.out.not_int hb) _ _ _ _ _)
  go_upto_region 10 with fail
  generalize hW4 : putC w3 w.heap.size (s.S ++ b) p1 n1 c1 T = w4 at *
  unfold Go.Proofs.YtlbihcpglcdmmaaGreat.putC at hW4
  rw [hW4]
  clear hW4 y0 y1 y2 u11 u12 u13 v11 v12 v13 HQ3 HR3 HB3 HROW3 HC3
  have i1 := HQ4.out.is
  have k1 := HQ4.out.cells
  have i2 := HR4.out.is
  have hlt := HR4.out.lt
  go_wp2_with fail
  have hz := HR4.out.row p1 n1 c1 { s with S := s.S ++ b, A := s.A ++ List.replicate b.size T, last := T }
  have hb := below_setRow HB4.out (Nat.le_succ w.heap.size) (rC p1 n1 c1 { s with S := s.S ++ b, A := s.A ++ List.replicate b.size T, last := T })
  have hrw := rowA_setR HROW4.out HR4.out (rC p1 n1 c1 { s with S := s.S ++ b, A := s.A ++ List.replicate b.size T, last := T })
  have HZ := Lib.hid hz
  have HE := Lib.hid hb
  have HRW := Lib.hid hrw
  clear hz hb hrw
  generalize w4.setRow (w.heap.size + 1) (rC p1 n1 c1 { s with S := s.S ++ b, A := s.A ++ List.replicate b.size T, last := T }) = wz at *
  exact bodyPost_ret (v := .agg (rC p1 n1 c1 { s with S := s.S ++ b, A := s.A ++ List.replicate b.size T, last := T })) (by simp [results, Tryz.results50, asAddr, loadVar_R HZ.out]) rfl ⟨p1, n1, c1, rfl, HRW.out, HE.out⟩
end Go.Proofs.YtlbihcpglcdmmaaGreat
namespace Go.Proofs.YtlbihcpglcdmmaaGreat
open Go.RowKit

attribute [local go_sem ↓] to_loadR to_storeR
attribute [local go_sem] run_loadR run_storeR rval
variable {w w' : World} {q n c : Nat} {p : Option Addr} {s s' : St}
set_option maxRecDepth 100000 in
set_option maxHeartbeats 8000000 in
theorem rforce_late (p : Option Addr) (n c : Nat) (s : St) (w : World) (hrow : gc.RowA w p n c s.A) {b : ByteArray} (hk : s.tx.k = 1) (ha : 0 ≤ s.tx.a ∧ s.tx.a ≤ 1099511627776) (hbb : 0 ≤ s.tx.b ∧ s.tx.b ≤ 1099511627776) (hb0 : 0 < b.size) (hn : n ≤ 100000) (hbs : b.size ≤ 100000) (hS : s.S.size ≤ 100000) {D V X T : Int} (hD : gd.rangeS s.d (s.tx.a - s.tx.b) (s.tx.a + s.tx.b) = D) (hV : gd.rangeV s.d (s.tx.a - s.tx.b) (s.tx.a + s.tx.b) = V) (hX : addT s.clock V = X) (hT : gc.putT s.last X = T) : Calls Tryz.prog 50 #[.agg (rC p n c s), .string b] w (Frc { s with d := D, S := s.S ++ b, A := s.A ++ List.replicate b.size T, last := T } w) := by
  have hw1 : IntKind.i64.wrap (s.tx.a - s.tx.b) = s.tx.a - s.tx.b := by rw [IntKind.wrap_i64]; omega
  have hw2 : IntKind.i64.wrap (s.tx.a + s.tx.b) = s.tx.a + s.tx.b := by rw [IntKind.wrap_i64]; omega
  have HP := Lib.hid (fun W (hr : gc.RowA W p n c s.A) => gc.rput_some s.S b p n c s.A s.last X W hr hn hbs hS hb0 hT)
  have HRG := Lib.hid (fun W => show Calls Tryz.prog 76 #[.int .u64 s.d, .int .i64 (s.tx.a - s.tx.b), .int .i64 (s.tx.a + s.tx.b)] W fun e w' => e = .returned (.tuple #[.int .i64 V, .int .u64 D]) ∧ Below W.heap.size W w' from by rw [← hD, ← hV]; exact gd.rrange_any _ _ _ W)
  have HAD := Lib.hid (fun W => show Calls Tryz.prog 52 #[.int .i64 s.clock, .int .i64 V] W fun e w' => e = .returned (.int .i64 X) ∧ W = w' from by rw [← hX]; exact gb.radd_any s.clock V W)
  have eb := gc.text_some hb0
  have e1 : (s.tx.k == 1) = true := by simpa using hk
  have e2 : decide (s.tx.k = 1) = true := by simpa using hk
  clear hk ha hbb hb0 hn hbs hS hD hV hX hT
  obtain ⟨W0, hW0, hq, hr, hb⟩ := two_alloc p n c s w
  have hW0 : (w.alloc (.cells (rC p n c s) 38)).alloc (.cells #[.string ⟨#[]⟩, .int .i64 0, .bool false, .int .i64 0, .int .i64 0, .int .i64 0, .int .u64 0, .int .i64 0, .int .i64 0, .int .i64 0, .int .i64 0, .string ⟨#[]⟩, .slice none 0 0, .int .i64 0, .int .i64 0, .int .i64 0, .int .i64 0, .int .i64 0, .int .i64 0, .bool false, .int .i64 0, .int .i64 0] 38) = W0 := hW0
  have HB := Lib.hid hb
  have HQ := Lib.hid hq
  have HR := Lib.hid hr
  have HROW := Lib.hid (gc.rowA_on hrow hb)
  have hlt := hr.lt
  have x1 : W0.cell? ⟨w.heap.size, 1, none⟩ = some (.int .i64 s.tx.k) := hq.cell 1
  have x4 : W0.cell? ⟨w.heap.size, 4, none⟩ = some (.int .i64 s.tx.a) := hq.cell 4
  have x5 : W0.cell? ⟨w.heap.size, 5, none⟩ = some (.int .i64 s.tx.b) := hq.cell 5
  have x6 : W0.cell? ⟨w.heap.size, 6, none⟩ = some (.int .u64 s.d) := hq.cell 6
  have x16 : W0.cell? ⟨w.heap.size, 16, none⟩ = some (.int .i64 s.clock) := hq.cell 16
  clear hq hr hb hrow
  go_enter Tryz.func50, Tryz.ntmps50
  go_wp2_with fail
  clear hW0 x1 x4 x5 x6 x16 hlt eb e1 e2 hw1 hw2
  refine (HRG.out _).mono ?_
  rintro e w5 ⟨rfl, hb5⟩
  have HQ5 := Lib.hid (HQ.out.on hb5)
  have HR5 := Lib.hid (HR.out.on hb5)
  have HB5 := Lib.hid (gb.seqB HB.out hb5)
  have HROW5 := Lib.hid (gc.rowA_on HROW.out hb5)
  have x6 : w5.cell? ⟨w.heap.size, 6, none⟩ = some (.int .u64 s.d) := HQ5.out.cell 6
  have f6 : w5.frozen? ⟨w.heap.size, 6, none⟩ = false := HQ5.out.frz 6
  clear hb5 HQ HR HB HROW HRG
  have HQ6 := Lib.hid (HQ5.out.set (i := 6) (v := .int .u64 D) (s' := { s with d := D }) (p' := p) (n' := n) (c' := c) rfl)
  have HR6 := Lib.hid (HR5.out.far (g := w.heap.size) (i := 6) (.int .u64 D) (Nat.succ_ne_self _))
  have HB6 := Lib.hid (HB5.out.setCell (p := ⟨w.heap.size, 6, none⟩) (Nat.le_refl _) (.int .u64 D))
  have HROW6 := Lib.hid (rowA_setC HROW5.out HQ5.out 6 (.int .u64 D))
  go_upto_region 7 with fail
  generalize w5.setCell ⟨w.heap.size, 6, none⟩ (.int .u64 D) = w6 at *
  clear x6 f6 HQ5 HR5 HB5 HROW5
  have x11 : w6.cell? ⟨w.heap.size, 11, none⟩ = some (.string s.S) := HQ6.out.cell 11
  have x12 : w6.cell? ⟨w.heap.size, 12, none⟩ = some (.slice p n c) := HQ6.out.cell 12
  have x13 : w6.cell? ⟨w.heap.size, 13, none⟩ = some (.int .i64 s.last) := HQ6.out.cell 13
  have hlt := HR6.out.lt
  go_wp2_with fail
  refine (HAD.out _).mono ?_
  rintro e w7 ⟨rfl, rfl⟩
  go_wp2_with fail
  clear x11 x12 x13 hlt HAD
  refine (HP.out _ HROW6.out).mono ?_
  rintro e w1 ⟨p1, n1, c1, rfl, hrow1, hb1⟩
  obtain ⟨W2, hW2, hc2, hb2⟩ := cargo_alloc w1
  have hs3 := set3c_heap hc2 (s.S ++ b) p1 n1 c1 T
  have hb3 := set3c_below hb2 (Nat.le_refl _) (s.S ++ b) p1 n1 c1 T
  have hq3 := HQ6.out.on (gb.seqB hb1 hb3)
  have HR3 := Lib.hid (HR6.out.on (gb.seqB hb1 hb3))
  have HB3 := Lib.hid (gb.seqB HB6.out (gb.seqB hb1 hb3))
  have HROW3 := Lib.hid (gc.rowA_on hrow1 hb3)
  have HC3 := Lib.hid hs3
  have HQ3 := Lib.hid hq3
  have hne := (Nat.lt_of_lt_of_le HQ6.out.lt hb1.size)
  have HNE := Lib.hid (show w1.heap.size ≠ w.heap.size by omega)
  have z0 : W2.cell? ⟨w1.heap.size, 0, none⟩ = some (.string ⟨#[]⟩) := cell_of_row _ _ 0 _ _ _ hc2
  have z1 : W2.cell? ⟨w1.heap.size, 1, none⟩ = some (.slice none 0 0) := cell_of_row _ _ 1 _ _ _ hc2
  have z2 : W2.cell? ⟨w1.heap.size, 2, none⟩ = some (.int .i64 0) := cell_of_row _ _ 2 _ _ _ hc2
  have g0 : W2.frozen? ⟨w1.heap.size, 0, none⟩ = false := gb.frozen_at hc2
  have g1 : W2.frozen? ⟨w1.heap.size, 1, none⟩ = false := gb.frozen_at hc2
  have g2 : W2.frozen? ⟨w1.heap.size, 2, none⟩ = false := gb.frozen_at hc2
  have hlt2 := gb.blk_lt hc2
  clear hrow1 hb1 hc2 hs3 hb3 hq3 hb2 hne HP
  go_upto_region 9 with fail
  generalize hW3 : set3c W2 w1.heap.size (s.S ++ b) p1 n1 c1 T = w3 at *
  unfold set3c at hW3
  rw [hW3]
  clear hW3 z0 z1 z2 g0 g1 g2 hlt2 hW2
  generalize w1.heap.size = g at *
  have y0 : w3.cell? ⟨g, 0, none⟩ = some (.string (s.S ++ b)) := cell_of_row _ _ 0 _ _ _ HC3.out
  have y1 : w3.cell? ⟨g, 1, none⟩ = some (.slice p1 n1 c1) := cell_of_row _ _ 1 _ _ _ HC3.out
  have y2 : w3.cell? ⟨g, 2, none⟩ = some (.int .i64 T) := cell_of_row _ _ 2 _ _ _ HC3.out
  have u11 : w3.cell? ⟨w.heap.size, 11, none⟩ = some (.string s.S) := HQ3.out.cell 11
  have u12 : w3.cell? ⟨w.heap.size, 12, none⟩ = some (.slice p n c) := HQ3.out.cell 12
  have u13 : w3.cell? ⟨w.heap.size, 13, none⟩ = some (.int .i64 s.last) := HQ3.out.cell 13
  have v11 := HQ3.out.frz 11
  have v12 := HQ3.out.frz 12
  have v13 := HQ3.out.frz 13
  have HQ4 := Lib.hid (HQ3.out.putC (s.S ++ b) (s.A ++ List.replicate b.size T) p1 n1 c1 T)
  have HR4 := Lib.hid (show RAt (putC w3 w.heap.size (s.S ++ b) p1 n1 c1 T) (w.heap.size + 1) none 0 0 noSt from (putC_far (Nat.succ_ne_self _) _ _ _ _ _).trans HR3.out)
  have HB4 := Lib.hid (putC_below HB3.out (Nat.le_refl _) (s.S ++ b) p1 n1 c1 T)
  have HROW4 := Lib.hid (show gc.RowA (putC w3 w.heap.size (s.S ++ b) p1 n1 c1 T) p1 n1 c1 (s.A ++ List.replicate b.size T) from rowA_typed HROW3.out fun _ _ _ hb => putC_far (HQ3.out.not_int hb) _ _ _ _ _)
  go_upto_region 10 with fail
  generalize hW4 : putC w3 w.heap.size (s.S ++ b) p1 n1 c1 T = w4 at *
  unfold Go.Proofs.YtlbihcpglcdmmaaGreat.putC at hW4
  rw [hW4]
  clear hW4 y0 y1 y2 u11 u12 u13 v11 v12 v13 HQ3 HR3 HB3 HROW3 HC3
  have i1 := HQ4.out.is
  have k1 := HQ4.out.cells
  have i2 := HR4.out.is
  have hlt := HR4.out.lt
  go_wp2_with fail
  have hz := HR4.out.row p1 n1 c1 { s with d := D, S := s.S ++ b, A := s.A ++ List.replicate b.size T, last := T }
  have hb := below_setRow HB4.out (Nat.le_succ w.heap.size) (rC p1 n1 c1 { s with d := D, S := s.S ++ b, A := s.A ++ List.replicate b.size T, last := T })
  have hrw := rowA_setR HROW4.out HR4.out (rC p1 n1 c1 { s with d := D, S := s.S ++ b, A := s.A ++ List.replicate b.size T, last := T })
  have HZ := Lib.hid hz
  have HE := Lib.hid hb
  have HRW := Lib.hid hrw
  clear hz hb hrw
  generalize w4.setRow (w.heap.size + 1) (rC p1 n1 c1 { s with d := D, S := s.S ++ b, A := s.A ++ List.replicate b.size T, last := T }) = wz at *
  exact bodyPost_ret (v := .agg (rC p1 n1 c1 { s with d := D, S := s.S ++ b, A := s.A ++ List.replicate b.size T, last := T })) (by simp [results, Tryz.results50, asAddr, loadVar_R HZ.out]) rfl ⟨p1, n1, c1, rfl, HRW.out, HE.out⟩
theorem rforce_any (p : Option Addr) (n c : Nat) (s : St) (w : World) (hrow : gc.RowA w p n c s.A) {b : ByteArray} (hab : (0 ≤ s.tx.a ∧ s.tx.a ≤ 1099511627776) ∧ (0 ≤ s.tx.b ∧ s.tx.b ≤ 1099511627776)) (hn : n ≤ 100000) (hbs : b.size ≤ 100000) (hS : s.S.size ≤ 100000) : Calls Tryz.prog 50 #[.agg (rC p n c s), .string b] w (Frc (forceS s b) w) := by
  unfold forceS
  by_cases h0 : b.size = 0
  · rw [if_pos h0]
    have e : b = ⟨#[]⟩ := ByteArray.ext (Array.eq_empty_of_size_eq_zero h0)
    rw [e]
    exact rforce_none p n c s w hrow
  · rw [if_neg h0]
    by_cases hk : s.tx.k = 1
    · rw [if_pos hk]
      exact rforce_late p n c s w hrow hk hab.1 hab.2 (by omega) hn hbs hS rfl rfl rfl rfl
    · rw [if_neg hk]
      exact rforce_now p n c s w hrow hk (by omega) hn hbs hS rfl
end Go.Proofs.YtlbihcpglcdmmaaGreat
